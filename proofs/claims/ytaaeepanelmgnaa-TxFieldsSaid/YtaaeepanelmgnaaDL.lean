/-
  Rows of bytes that grow; slices of bytes in a row; what is read is written again.
-/
import Derived.Test.YtaaeepanelmgnaaOL
namespace Go.Proofs.Ytaaeepanelmgnaa
open Go.RowKit
set_option linter.unusedSimpArgs false
set_option linter.unusedVariables false

theorem infoBy : (Try.prog.info? 5).map (fun i => (i.zero, i.size, i.bytes)) = some (some (.int .u8 0), 1, 1) := by kernel_rfl
theorem infoBs : (Try.prog.info? 39).map (fun i => (i.zero, i.size, i.bytes)) = some (some (.slice none 0 0), 1, 24) := by kernel_rfl
theorem nil_by (w : World) : (Instr.buildSlice 39 0 #[]).run Try.prog w = .ok (.slice (some ⟨w.heap.size, 0, none⟩) 0 0) (w.alloc (.cells #[] 5)) := build_nil Try.underlying39 infoBy w
theorem nil_own (w : World) : Own (w.alloc (.cells #[] 5)) w.heap.size (.slice (some ⟨w.heap.size, 0, none⟩) 0 0) [] := own_nil w 5 1
theorem one_by (x : Int) (w : World) : (Instr.buildSlice 39 1 #[(0, .int .u8 x)]).run Try.prog w = .ok (.slice (some ⟨w.heap.size, 0, none⟩) 1 1) (w.alloc (.cells #[.int .u8 x] 5)) := by
  obtain ⟨i0, hi, hz0, hz1, hz2⟩ := info_parts infoBy
  refine run_buildSlice w 39 5 1 _ #[.int .u8 x] i0 _ Try.underlying39 hi hz0 (by rw [hz1]; omega) (by rw [hz1]; omega) ?_
  rw [hz1]
  kernel_rfl
theorem one_sl (x : Int) (w : World) : Sl (w.alloc (.cells #[.int .u8 x] 5)) (some ⟨w.heap.size, 0, none⟩) 1 [x] := .inr ⟨_, rfl, fun k hk => ⟨w.heap.size, 0, rfl, by
  obtain rfl : k = 0 := by simp at hk; omega
  rw [cell_of_row _ w.heap.size _ _ _ (0, 0) (heap_alloc_last w _)]
  rfl⟩⟩
/-- 'append' of bytes to a row that the call made. -/
theorem grow_by {w : World} {B : Nat} {v : Value} {A M : List Int} (h : Own w B v A) (hB : B ≤ w.heap.size) (pa : Option Addr) (cp : Nat) (hP : Sl w pa cp M) (hl : A.length + M.length ≤ 100000000) :
    ∃ a c V2, (Builtin.append_ #[39, 39] 39 #[v, .slice pa M.length cp]).run Try.prog w = .ok (.slice a (A ++ M).length c) V2 ∧ Own V2 B (.slice a (A ++ M).length c) (A ++ M) ∧ Below B w V2 := by
  obtain ⟨i0, hi, hz0, hz1, hz2⟩ := info_parts infoBy
  have fin : ∀ v2 V2, (Builtin.append_ #[39, 39] 39 #[v, .slice pa M.length cp]).run Try.prog w = .ok v2 V2 → Own V2 B v2 (A ++ M) → Below B w V2 → ∃ a c V2, (Builtin.append_ #[39, 39] 39 #[v, .slice pa M.length cp]).run Try.prog w = .ok (.slice a (A ++ M).length c) V2 ∧ Own V2 B (.slice a (A ++ M).length c) (A ++ M) ∧ Below B w V2 := fun v2 V2 hr ho hb => by
    obtain ⟨a, c, rfl, -, -⟩ := ho.sl
    exact ⟨a, c, V2, hr, ho, hb⟩
  cases pa with
  | none =>
    have hM : M = [] := by
      rcases hP with ⟨-, -, e⟩ | ⟨x, e, -⟩
      · exact e
      · cases e
    subst hM
    refine fin v w ?_ (by rw [List.append_nil]; exact h) (Below.refl _ _)
    unfold Own at h
    rcases h.2 with ⟨rfl, h0⟩ | ⟨g, cap, cur, rfl, _, _, hnc, _⟩
    · simp [Builtin.append_, run_underlying Try.underlying39, sizeOf, typeInfo, hi, Builtin.lenOf, Builtin.firstCells]
    · simp [Builtin.append_, run_underlying Try.underlying39, sizeOf, typeInfo, hi, Builtin.lenOf, Builtin.firstCells, hnc, storeCells]
  | some x =>
    have hx : ∀ j u, (M.map (Value.int .u8))[j]? = some u → w.cell? (x.add j) = some u := fun j u hu => by
      rcases hP with ⟨e, -, -⟩ | ⟨y, e, hy⟩
      · cases e
      · cases e
        have hj : j < M.length := by
          have := (List.getElem?_eq_some_iff.1 hu).1
          simpa using this
        obtain ⟨b, off, rfl, hc⟩ := hy j hj
        rw [Addr.add_mid, hc]
        rw [List.getElem?_map, List.getElem?_eq_getElem hj] at hu
        rw [List.getD_eq_getElem?_getD, List.getElem?_eq_getElem hj]
        exact hu
    obtain ⟨v2, V2, hr, hO2, hg, -, -⟩ := run_append_own_at (P := Try.prog) w B 39 39 5 i0 _ 1 1 Try.underlying39 hi hz0 hz1 hz2 (by kernel_rfl) (by omega) v A.length (A.map (Value.int .u8)) h x M.length cp (M.map (Value.int .u8)) (by rw [List.length_map, Nat.mul_one]) hx (fun u hu => by obtain ⟨y, -, rfl⟩ := List.mem_map.1 hu; rfl) (by unfold maxLen; omega) (by omega) hB
    refine fin v2 V2 hr (by unfold Own; rw [List.map_append, List.length_append]; exact hO2) ((Below.refl _ w).grown hg hB fun j hj => (World.ownsRow.lt h j hj).1)
set_option maxRecDepth 100000 in
theorem at_to (a : Option Addr) (n c k : Nat) (w : World) (h : k ≤ c) : (Instr.sliceAt 39 (.slice a n c) none (some (.int .i64 (k : Int))) none).run Try.prog w = .ok (.slice a k c) w := slice_to .i64 a n c k w h
set_option maxRecDepth 100000 in
theorem at_from (a : Option Addr) (n c k : Nat) (w : World) (h : k ≤ n) : (Instr.sliceAt 39 (.slice a n c) (some (.int .i64 (k : Int))) none none).run Try.prog w = .ok (.slice (fromA a c k) (n - k) (c - k)) w := slice_from .i64 a n c k w h
theorem bits1 : ∀ h : Nat, h < 256 → bits .and .u8 (h : Int) 1 = ((h % 2 : Nat) : Int) := by decide +kernel
theorem bits2 : ∀ h : Nat, h < 256 → bits .and .u8 (h : Int) 2 = ((h / 2 % 2 * 2 : Nat) : Int) := by decide +kernel
section
variable {ρ : Operand → Value} {o : Oper} {x y : Operand}
theorem and_8 (ho : o.op = .binOp .and 5 x y 5) (a b : Int) {z : Int} (hz : bits .and .u8 a b = z) (hx : ρ x = .int .u8 a) (hy : ρ y = .int .u8 b) (w : World) : (execOp ρ o).run Try.prog w = .ok (.value (.int .u8 z)) w := by
  subst hz
  unfold execOp
  simp only [ho, hx, hy]
  go_simp
theorem eql_8 (ho : o.op = .binOp .eql 5 x y 5) (a b : Int) {t : Bool} (ht : decide (a = b) = t) (hx : ρ x = .int .u8 a) (hy : ρ y = .int .u8 b) (w : World) : (execOp ρ o).run Try.prog w = .ok (.value (.bool t)) w := by
  have e : (a == b) = t := by rw [← ht]; rfl
  unfold execOp
  simp only [ho, hx, hy]
  go_simp
theorem conv_u16 (ho : o.op = .convert 46 3 x) (a : Int) (h0 : 0 ≤ a) (h1 : a ≤ 65535) (hx : ρ x = .int .u16 a) (w : World) : (execOp ρ o).run Try.prog w = .ok (.value (.int .i64 a)) w := by
  have hw : IntKind.i64.wrap a = a := by
    rw [IntKind.wrap_i64]; omega
  unfold execOp
  simp only [ho, hx]
  go_simp
theorem min_int (ho : o.op = .call { callee := .builtin .min, args := #[x, y], argTypes := #[3, 3] }) (a b : Int) (hx : ρ x = .int .i64 a) (hy : ρ y = .int .i64 b) (w : World) : (execOp ρ o).run Try.prog w = .ok (.value (.int .i64 (min a b))) w := by
  unfold execOp
  simp only [ho, hx, hy, resolve, invoke, builtin, Sem.run_bind, Sem.run_pure, Result.andThen_ok, List.map_toArray, List.map_cons, List.map_nil]
  simp [go_sem]
  by_cases hab : b < a
  · rw [if_pos hab, Int.min_eq_right (by omega)]
  · rw [if_neg hab, Int.min_eq_left (by omega)]
theorem idx_bs (b off n c k : Nat) (hk : k < n) (V : World) (ho : o.op = .indexAddr 48 x y) (hx : ρ x = .slice (some ⟨b, off, none⟩) n c) (hy : ρ y = .int .i64 k) : (execOp ρ o).run Try.prog V = .ok (.value (.pointer (some ⟨b, off + k, none⟩))) V := by
  have hs : (sizeOf (Try.prog.elem 48)).run Try.prog V = .ok 1 V := by kernel_rfl
  have hlm : (k : Int) < (n : Int) := by omega
  unfold execOp
  simp only [ho, hx, hy]
  go_simp
end
/-- A slice of bytes: where it begins, its capacity, its bytes. -/
abbrev Bs : Type := Option Addr × Nat × List Int
def bsv (x : Bs) : Value := .slice x.1 x.2.2.length x.2.1
def bsc (S : List Bs) : List Value := S.map bsv
def Good (V : World) (x : Bs) : Prop := Sl V x.1 x.2.1 x.2.2 ∧ x.2.2.length ≤ x.2.1 ∧ ∀ y, y ∈ x.2.2 → W8 y
theorem Good.below {V V2 : World} {x : Bs} (h : Good V x) (hb : Below V.heap.size V V2) : Good V2 x := ⟨sl_below h.1 hb, h.2⟩
theorem build_five (a b c d e : Bs) (V : World) : (Instr.buildSlice 48 5 #[(0, bsv a), (1, bsv b), (2, bsv c), (3, bsv d), (4, bsv e)]).run Try.prog V = .ok (.slice (some ⟨V.heap.size, 0, none⟩) 5 5) (V.alloc (.cells (bsc [a, b, c, d, e]).toArray 39)) := by
  obtain ⟨i0, hi, hz0, hz1, hz2⟩ := info_parts infoBs
  refine run_buildSlice V 48 39 5 _ (bsc [a, b, c, d, e]).toArray i0 _ Try.underlying48 hi hz0 (by rw [hz1]; omega) (by rw [hz1]; omega) ?_
  rw [hz1]
  kernel_rfl
theorem load_bs {w : World} {g t : Nat} {S : List Bs} (h : Bx w g (bsc S).toArray t) {k : Nat} {x : Bs} (hk : S[k]? = some x) : (Instr.loadAt 39 (.pointer (some ⟨g, 0 + k, none⟩))).run Try.prog w = .ok (bsv x) w := by
  rw [Nat.zero_add]
  exact Bx.load h (i := k) (by rw [List.getElem?_toArray]; unfold bsc; rw [List.getElem?_map, hk]; rfl) (by kernel_rfl)
/-- What is read has few transfers. -/
theorem dec_len (L : List Int) (h : ∀ x, x ∈ L → W8 x) : (decX L).1.tr.length ≤ 16 := by
  obtain ⟨T, e, hd⟩ : ∃ T e, decX L = (T, e) := ⟨_, _, rfl⟩
  by_cases he : e = 0
  · subst he
    obtain ⟨h1, h2, h3, h4⟩ := dec_ok h hd
    rw [hd]
    exact (val_ok h1 h3.sq h3.gas h3.fee h3.am).2.2
  · have hz : T = zX := by
      unfold decX at hd
      repeat' split at hd
      all_goals simp only [Prod.mk.injEq] at hd
      all_goals first | exact hd.1.symm | exact absurd hd.2.symm he
    rw [hd, hz]
    exact Nat.zero_le _
theorem dec_back {L : List Int} {T : Txd} (h : ∀ x, x ∈ L → W8 x) (hd : decX L = (T, 0)) : encX T = (L, 0) ∧ TxB T := by
  obtain ⟨h1, h2, h3, h4⟩ := dec_ok h hd
  refine ⟨?_, h3.b⟩
  unfold encX
  rw [if_neg (by rw [h1]; decide), h2, if_neg (by omega)]
/-- A row of bytes that is read. -/
def FS (V : World) (v : Value) (L : List Int) : Prop := ∃ b d, v = .slice b L.length d ∧ Sl V b d L ∧ L.length ≤ d
theorem FS.below {V V2 : World} {v : Value} {L : List Int} (h : FS V v L) (hb : Below V.heap.size V V2) : FS V2 v L := by
  obtain ⟨b, d, h1, h2, h3⟩ := h
  exact ⟨b, d, h1, sl_below h2 hb, h3⟩
/-- What region 4 keeps. -/
structure Fd (g5 g6 : Nat) (xa : Txd) (a1 : Option Addr) (c1 : Nat) (xb : Txd) (a2 : Option Addr) (c2 : Nat) (b1 b3 b4 b5 : Bool) (x41 x43 : Value) (V W : World) : Prop where
  bel : Below W.heap.size W V
  k5 : Bx V g5 (txA xa a1 c1) 29
  k6 : Bx V g6 (txA xb a2 c2) 29
  r5 : Cs V a1 (tfc xa.tr)
  r6 : Cs V a2 (tfc xb.tr)
  f1 : b1 = true → FS V x41 (form xa)
  f3 : b3 = true → FS V x43 (form xb)
  o4 : b4 = true → b1 = true
  o5 : b5 = true → b3 = true
section
variable {g5 g6 : Nat} {xa : Txd} {a1 : Option Addr} {c1 : Nat} {xb : Txd} {a2 : Option Addr} {c2 : Nat} {b1 b3 b4 b5 : Bool} {x41 x43 : Value} {V W : World}
theorem Fd.s1 (h : Fd g5 g6 xa a1 c1 xb a2 c2 false b3 b4 b5 x41 x43 V W) {V2 : World} {v : Value} {B : Nat} (hO : Own V2 B v (form xa)) (hb : Below V.heap.size V V2) : Fd g5 g6 xa a1 c1 xb a2 c2 true b3 false b5 v x43 V2 W := by
  obtain ⟨b, d, e1, e2, e3⟩ := hO.sl
  exact ⟨h.bel.trans (hb.mono h.bel.size), h.k5.below h.k5.lt hb, h.k6.below h.k6.lt hb, h.r5.below hb, h.r6.below hb, fun _ => ⟨b, d, e1, e2, e3⟩, fun e => (h.f3 e).below hb, (fun e => nomatch e), h.o5⟩
theorem Fd.s3 (h : Fd g5 g6 xa a1 c1 xb a2 c2 b1 false b4 b5 x41 x43 V W) {V2 : World} {v : Value} {B : Nat} (hO : Own V2 B v (form xb)) (hb : Below V.heap.size V V2) : Fd g5 g6 xa a1 c1 xb a2 c2 b1 true b4 false x41 v V2 W := by
  obtain ⟨b, d, e1, e2, e3⟩ := hO.sl
  exact ⟨h.bel.trans (hb.mono h.bel.size), h.k5.below h.k5.lt hb, h.k6.below h.k6.lt hb, h.r5.below hb, h.r6.below hb, fun e => (h.f1 e).below hb, fun _ => ⟨b, d, e1, e2, e3⟩, h.o4, (fun e => nomatch e)⟩
end
end Go.Proofs.Ytaaeepanelmgnaa
