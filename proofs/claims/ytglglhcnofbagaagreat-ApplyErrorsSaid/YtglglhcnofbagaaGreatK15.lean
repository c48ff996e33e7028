/-
  mempoolmake's Accounts: contract. The memory while mempoolmake's Tx runs.
-/
import Derived.Test.YtglglhcnofbagaaGreatK14
namespace Go.Proofs.YtglglhcnofbagaaGreat
attribute [local irreducible] wpList wpQuiet
open Go.RowKit
set_option linter.unusedSimpArgs false
set_option linter.unusedVariables false

abbrev Ac := ByteArray × Int × Int
def acl (x : Ac) : List Value := [.string x.1, .int .u64 x.2.1, .int .u64 x.2.2]
abbrev acA (x : Ac) : Array Value := #[.string x.1, .int .u64 x.2.1, .int .u64 x.2.2]
def acc (A : List Ac) : List Value := A.flatMap acl
def zAc : Ac := (mtS, 0, 0)
def AcQ (x : Ac) : Prop := NmQ x.1 ∧ W64 x.2.1 ∧ W64 x.2.2
theorem infoAc : (Tryz.prog.info? 49).map (fun i => (i.zero, i.size, i.bytes)) = some (some (.agg #[.string ByteArray.empty, .int .u64 0, .int .u64 0]), 3, 32) := by kernel_rfl
theorem acc_len : ∀ A : List Ac, (acc A).length = A.length * 3
  | [] => rfl
  | x :: r => by
    have := acc_len r
    show (acl x ++ acc r).length = _
    rw [List.length_append, this, List.length_cons]
    show 3 + _ = _
    omega
def aca (A : List Ac) (j : Nat) : Ac := A.getD j (mtS, 0, 0)
theorem aca_mem {A : List Ac} {j : Nat} (h : j < A.length) : aca A j ∈ A := by
  have : aca A j = A[j] := getD_lt A j _ h
  rw [this]; exact List.getElem_mem h
theorem acc_at : ∀ (A : List Ac) (k : Nat), k < A.length → (acc A)[k * 3]? = some (.string (aca A k).1) ∧ (acc A)[k * 3 + 1]? = some (.int .u64 (aca A k).2.1) ∧ (acc A)[k * 3 + 2]? = some (.int .u64 (aca A k).2.2)
  | [], k, h => absurd h (by simp)
  | x :: r, 0, h => ⟨rfl, rfl, rfl⟩
  | x :: r, k + 1, h => by
    have := acc_at r k (by simpa using h)
    have e : ∀ q, (acc (x :: r))[q + 3]? = (acc r)[q]? := fun q => rfl
    rw [show (k + 1) * 3 = k * 3 + 3 by omega, show k * 3 + 3 + 1 = (k * 3 + 1) + 3 by omega, show k * 3 + 3 + 2 = (k * 3 + 2) + 3 by omega, e, e, e]
    exact this
theorem ac_range {w : World} {a : Option Addr} {A : List Ac} (h : Cs w a (acc A)) {k : Nat} (hk : k < A.length) : ∃ b off, a = some ⟨b, off, none⟩ ∧ b < w.heap.size ∧ w.rangeAt b (off + k * 3) (acl (aca A k)) := by
  obtain ⟨h0, h1, h2⟩ := acc_at A k hk
  obtain ⟨b, off, rfl, hb, c0⟩ := h _ _ h0
  obtain ⟨b1, o1, e1, -, c1⟩ := h _ _ h1
  obtain ⟨b2, o2, e2, -, c2⟩ := h _ _ h2
  simp only [Option.some.injEq, Addr.mk.injEq, and_true] at e1 e2
  obtain ⟨rfl, rfl⟩ := e1
  obtain ⟨rfl, rfl⟩ := e2
  refine ⟨b, off, rfl, hb, fun j v hj => ?_⟩
  have hj2 : j < 3 := by
    have := (List.getElem?_eq_some_iff.1 hj).1
    simpa [acl] using this
  rcases (show j = 0 ∨ j = 1 ∨ j = 2 by omega) with rfl | rfl | rfl
  · simp [acl] at hj; rw [← hj]; exact c0
  · simp [acl] at hj; rw [← hj, Nat.add_assoc]; exact c1
  · simp [acl] at hj; rw [← hj, Nat.add_assoc]; exact c2
theorem load_ac {w : World} {b o : Nat} {x : Ac} (h : w.rangeAt b o (acl x)) : (Instr.loadAt 49 (.pointer (some ⟨b, o, none⟩))).run Tryz.prog w = .ok (.agg (acA x)) w :=
  run_loadAt_mid w b o 49 (acl x) _ h Tryz.underlying49 rfl (by kernel_rfl)
theorem load_acb {w : World} {g k : Nat} {x : Ac} (h : Bx w g (acA x) k) : (Instr.loadAt 49 (.pointer (some ⟨g, 0, none⟩))).run Tryz.prog w = .ok (.agg (acA x)) w :=
  load_ac fun j v hv => by
    rw [cell_of_row w g _ _ _ (0, 0) h]
    simpa [acl] using hv
theorem store_ac {w : World} {g : Nat} {x y : Ac} (h : Bx w g (acA x) 49) : (Instr.storeAt 49 (.pointer (some ⟨g, 0, none⟩)) (.agg (acA y))).run Tryz.prog w = .ok () (w.setRow g (acA y)) ∧ Bx (w.setRow g (acA y)) g (acA y) 49 :=
  ⟨run_store_all h rfl (by simp [Value.oneCell']) (by kernel_rfl), h.set⟩
theorem idx_ac (b off n c k : Nat) (hk : k < n) (V : World) (ρ : Operand → Value) (o : Oper) {x y : Operand} (ho : o.op = .indexAddr 22 x y) (hx : ρ x = .slice (some ⟨b, off, none⟩) n c) (hy : ρ y = .int .i64 k) : (execOp ρ o).run Tryz.prog V = .ok (.value (.pointer (some ⟨b, off + k * 3, none⟩))) V := by
  have hs : (sizeOf (Tryz.prog.elem 22)).run Tryz.prog V = .ok 3 V := by kernel_rfl
  have hlm : (k : Int) < (n : Int) := by omega
  unfold execOp
  simp only [ho, hx, hy]
  go_simp
theorem build_ac (x : Ac) (V : World) : (Instr.buildSlice 22 1 #[(0, .agg (acA x))]).run Tryz.prog V = .ok (.slice (some ⟨V.heap.size, 0, none⟩) 1 1) (V.alloc (.cells (acA x) 49)) := by
  obtain ⟨i0, hi, hz0, hz1, hz2⟩ := info_parts infoAc
  refine run_buildSlice V 22 49 1 _ (acA x) i0 _ Tryz.underlying22 hi hz0 (by rw [hz1]; omega) (by rw [hz1]; omega) ?_
  rw [hz1]
  kernel_rfl
def RowA (w : World) (B : Nat) (v : Value) (A : List Ac) : Prop := w.ownsRow B 49 3 v A.length (acc A)
theorem RowA.cs {w : World} {B : Nat} {v : Value} {A : List Ac} (h : RowA w B v A) : ∃ a c, v = .slice a A.length c ∧ Cs w a (acc A) ∧ A.length ≤ c := own_cs h
theorem grow_ac {w : World} {B : Nat} {v : Value} {A : List Ac} (h : RowA w B v A) (hB : B ≤ w.heap.size) (x : Ac) (hl : A.length ≤ 100000) :
    ∃ a c V2, (Builtin.append_ #[22, 22] 22 #[v, .slice (some ⟨w.heap.size, 0, none⟩) 1 1]).run Tryz.prog (w.alloc (.cells (acA x) 49)) = .ok (.slice a (A ++ [x]).length c) V2 ∧ RowA V2 B (.slice a (A ++ [x]).length c) (A ++ [x]) ∧ Below B w V2 := by
  have hb : Below w.heap.size w (w.alloc (.cells (acA x) 49)) := (Below.refl _ w).alloc (Nat.le_refl _) _
  have hO := own_below h hb
  have hc : Cs (w.alloc (.cells (acA x) 49)) (some ⟨w.heap.size, 0, none⟩) (acl x) := Cs.block (t := 49) (fr := (0, 0)) (heap_alloc_last w _)
  obtain ⟨v2, V2, hr, hO2, hb2, -⟩ := append_cs (P := Tryz.prog) (t := 22) (m := 1) Tryz.underlying22 infoAc (by kernel_rfl) (by omega) (by omega) hO (some ⟨w.heap.size, 0, none⟩) 1 (acl x) hc rfl (fun u hu => by
    simp only [acl, List.mem_cons, List.not_mem_nil, or_false] at hu
    rcases hu with rfl | rfl | rfl <;> rfl) (by simp; omega) hl (by omega)
  have e : acc (A ++ [x]) = acc A ++ acl x := by unfold acc; rw [List.flatMap_append]; simp
  have hO3 : RowA V2 B v2 (A ++ [x]) := by unfold RowA; rw [e, List.length_append]; exact hO2
  obtain ⟨a, c, rfl, -, -⟩ := hO3.cs
  exact ⟨a, c, V2, hr, hO3, (hb.mono hB).trans hb2⟩
/-- Words in a row that begins its block. -/
def u64s (S : List Int) : List Value := S.map (Value.int .u64)
theorem infoU : (Tryz.prog.info? 23).map (fun i => (i.zero, i.size, i.bytes)) = some (some (.int .u64 0), 1, 8) := by kernel_rfl
theorem load_u64 {w : World} {g t : Nat} {S : List Int} (h : Bx w g (u64s S).toArray t) {k : Nat} (hk : k < S.length) : (Instr.loadAt 23 (.pointer (some ⟨g, 0 + k, none⟩))).run Tryz.prog w = .ok (.int .u64 (S.getD k 0)) w := by
  rw [Nat.zero_add]
  refine Bx.load h (i := k) ?_ (by kernel_rfl)
  rw [List.getElem?_toArray]
  unfold u64s
  rw [List.getElem?_map, List.getElem?_eq_getElem hk, List.getD_eq_getElem?_getD, List.getElem?_eq_getElem hk]
  rfl
theorem idx_u64 (b off n c k : Nat) (hk : k < n) (V : World) (ρ : Operand → Value) (o : Oper) {x y : Operand} (ho : o.op = .indexAddr 36 x y) (hx : ρ x = .slice (some ⟨b, off, none⟩) n c) (hy : ρ y = .int .i64 k) : (execOp ρ o).run Tryz.prog V = .ok (.value (.pointer (some ⟨b, off + k, none⟩))) V := by
  have hs : (sizeOf (Tryz.prog.elem 36)).run Tryz.prog V = .ok 1 V := by kernel_rfl
  have hlm : (k : Int) < (n : Int) := by omega
  unfold execOp
  simp only [ho, hx, hy]
  go_simp
def bal5 : List Int := [100000, 5000, 700, 0, 1099511627776]
def seq3 : List Int := [5, 18446744073709551615, 18446744073709551614]
theorem bal_w (k : Nat) : W64 (bal5.getD k 0) := by
  match k with
  | 0 | 1 | 2 | 3 | 4 => exact ⟨by decide, by decide⟩
  | k + 5 => exact ⟨by simp [bal5], by simp [bal5]⟩
theorem seq_w (k : Nat) : W64 (seq3.getD k 0) := by
  match k with
  | 0 | 1 | 2 => exact ⟨by decide, by decide⟩
  | k + 3 => exact ⟨by simp [seq3], by simp [seq3]⟩
def nm4 : List ByteArray := [⟨#[97, 110, 110]⟩, ⟨#[98, 111, 98]⟩, ⟨#[101, 118, 101]⟩, ⟨#[122, 111, 101]⟩]
theorem nm4_ok (k : Nat) (h : k < 4) : NmQ (nm4.getD k mtS) := by
  rcases (show k = 0 ∨ k = 1 ∨ k = 2 ∨ k = 3 by omega) with rfl | rfl | rfl | rfl <;> exact ⟨by decide +kernel, by decide⟩
theorem build_nm4 (V : World) : (Instr.buildSlice 113 4 #[(0, .string ⟨#[97, 110, 110]⟩), (1, .string ⟨#[98, 111, 98]⟩), (2, .string ⟨#[101, 118, 101]⟩), (3, .string ⟨#[122, 111, 101]⟩)]).run Tryz.prog V = .ok (.slice (some ⟨V.heap.size, 0, none⟩) 4 4) (V.alloc (.cells (strs nm4).toArray 9)) := by
  obtain ⟨i0, hi, hz0, hz1, hz2⟩ := info_parts infoSt
  refine run_buildSlice V 113 9 4 _ (strs nm4).toArray i0 _ Tryz.underlying113 hi hz0 (by rw [hz1]; omega) (by rw [hz1]; omega) ?_
  rw [hz1]
  kernel_rfl
theorem build_bal (V : World) : (Instr.buildSlice 36 5 #[(0, .int .u64 100000), (1, .int .u64 5000), (2, .int .u64 700), (3, .int .u64 0), (4, .int .u64 1099511627776)]).run Tryz.prog V = .ok (.slice (some ⟨V.heap.size, 0, none⟩) 5 5) (V.alloc (.cells (u64s bal5).toArray 23)) := by
  obtain ⟨i0, hi, hz0, hz1, hz2⟩ := info_parts infoU
  refine run_buildSlice V 36 23 5 _ (u64s bal5).toArray i0 _ Tryz.underlying36 hi hz0 (by rw [hz1]; omega) (by rw [hz1]; omega) ?_
  rw [hz1]
  kernel_rfl
theorem build_seq (V : World) : (Instr.buildSlice 36 3 #[(0, .int .u64 5), (1, .int .u64 18446744073709551615), (2, .int .u64 18446744073709551614)]).run Tryz.prog V = .ok (.slice (some ⟨V.heap.size, 0, none⟩) 3 3) (V.alloc (.cells (u64s seq3).toArray 23)) := by
  obtain ⟨i0, hi, hz0, hz1, hz2⟩ := info_parts infoU
  refine run_buildSlice V 36 23 3 _ (u64s seq3).toArray i0 _ Tryz.underlying36 hi hz0 (by rw [hz1]; omega) (by rw [hz1]; omega) ?_
  rw [hz1]
  kernel_rfl
theorem NS.ab {w : World} {g c k : Nat} {a : Option Addr} {L : List Int} (h : NS w g a c L k) (hL : L ≠ []) (x : Addr) (hx : a = some x) : x.block < w.heap.size := by
  obtain ⟨N, -, -, h3, -⟩ := h
  obtain ⟨b, off, e, hb, -⟩ := int_at h3 (k := 0) (List.length_pos_iff.2 hL)
  rw [hx] at e
  cases e
  exact hb
theorem NS.butA {w w' W : World} {g q c k : Nat} {a : Option Addr} {L : List Int} (h : NS w g a c L k) (hb : But q w w') (hq : W.heap.size ≤ q) (hg : g < W.heap.size) (ha : L ≠ [] → ∀ x, a = some x → x.block < W.heap.size) : NS w' g a c L k :=
  h.but hb (by omega) (fun h1 x hx => Nat.lt_of_lt_of_le (ha h1 x hx) hq)
/-- What region 5 keeps. -/
structure KC (W : World) (g : Nat) (a : Option Addr) (c : Nat) (L : List Int) (k i : Nat) (b0 b2 b4 b6 b7 b8 b9 b10 b11 : Bool) (x12 x14 x16 x18 x19 x20 x21 x5 : Value) (V : World) : Prop where
  o11 : b11 = true → b10 = true
  o12 : b11 = true → b9 = true
  bt : But g W V
  ns : NS V g a c L (k + 1)
  n0 : b6 = false → NS V g a c L k
  f12 : b0 = true → ∃ q, x12 = .slice (some ⟨q, 0, none⟩) 4 4 ∧ W.heap.size ≤ q ∧ Bx V q (strs nm4).toArray 9
  f14 : b2 = true → ∃ q, x14 = .pointer (some ⟨q, 0 + i, none⟩) ∧ W.heap.size ≤ q ∧ Bx V q (strs nm4).toArray 9
  f16 : b4 = true → ∃ q, x16 = .slice (some ⟨q, 0, none⟩) 5 5 ∧ W.heap.size ≤ q ∧ Bx V q (u64s bal5).toArray 23
  f18 : b6 = true → ∃ v : Nat, v < 5 ∧ x18 = .int .i64 v
  f19 : b7 = true → ∃ q v, v < 5 ∧ x19 = .pointer (some ⟨q, 0 + v, none⟩) ∧ W.heap.size ≤ q ∧ Bx V q (u64s bal5).toArray 23
  f20 : b8 = true → ∃ m, W64 m ∧ x20 = .int .u64 m
  f21 : b9 = true → ∃ m, W64 m ∧ x21 = .agg (acA (nm4.getD i mtS, m, 0))
  f5 : b10 = true → b11 = false → ∃ q, x5 = .pointer (some ⟨q, 0, none⟩) ∧ W.heap.size ≤ q ∧ Bx V q (acA zAc) 49
  d5 : b11 = true → ∃ q m, W64 m ∧ x5 = .pointer (some ⟨q, 0, none⟩) ∧ W.heap.size ≤ q ∧ Bx V q (acA (nm4.getD i mtS, m, 0)) 49
section
variable {W : World} {g c k i : Nat} {a : Option Addr} {L : List Int} {b0 b2 b4 b6 b7 b8 b9 b10 b11 : Bool} {x12 x14 x16 x18 x19 x20 x21 x5 : Value} {V : World}
/-- A step that leaves all old blocks but g. -/
theorem KC.to (h : KC W g a c L k i b0 b2 b4 b6 b7 b8 b9 b10 b11 x12 x14 x16 x18 x19 x20 x21 x5 V) {V2 : World} (hbt : But g V V2) (hns : NS V2 g a c L (k + 1)) (hn0 : b6 = false → NS V2 g a c L k) (hg : g < W.heap.size) : KC W g a c L k i b0 b2 b4 b6 b7 b8 b9 b10 b11 x12 x14 x16 x18 x19 x20 x21 x5 V2 :=
  ⟨h.o11, h.o12, h.bt.trans hbt, hns, hn0,
   fun e => by obtain ⟨q, h1, h2, h3⟩ := h.f12 e; exact ⟨q, h1, h2, h3.but hbt (by omega)⟩,
   fun e => by obtain ⟨q, h1, h2, h3⟩ := h.f14 e; exact ⟨q, h1, h2, h3.but hbt (by omega)⟩,
   fun e => by obtain ⟨q, h1, h2, h3⟩ := h.f16 e; exact ⟨q, h1, h2, h3.but hbt (by omega)⟩,
   h.f18,
   fun e => by obtain ⟨q, v, h0, h1, h2, h3⟩ := h.f19 e; exact ⟨q, v, h0, h1, h2, h3.but hbt (by omega)⟩,
   h.f20, h.f21,
   fun e e2 => by obtain ⟨q, h1, h2, h3⟩ := h.f5 e e2; exact ⟨q, h1, h2, h3.but hbt (by omega)⟩,
   fun e => by obtain ⟨q, m, h0, h1, h2, h3⟩ := h.d5 e; exact ⟨q, m, h0, h1, h2, h3.but hbt (by omega)⟩⟩
theorem KC.al (h : KC W g a c L k i b0 b2 b4 b6 b7 b8 b9 b10 b11 x12 x14 x16 x18 x19 x20 x21 x5 V) (hg : g < W.heap.size) (o : Obj) : KC W g a c L k i b0 b2 b4 b6 b7 b8 b9 b10 b11 x12 x14 x16 x18 x19 x20 x21 x5 (V.alloc o) := by
  have hb : Below V.heap.size V (V.alloc o) := (Below.refl _ V).alloc (Nat.le_refl _) _
  exact h.to (But.of_below hb (Nat.le_of_lt h.ns.lt)) (h.ns.below hb) (fun e => (h.n0 e).below hb) hg
theorem KC.s6 (h : KC W g a c L k i b0 b2 b4 false b7 b8 b9 b10 b11 x12 x14 x16 x18 x19 x20 x21 x5 V) {V2 : World} {v : Nat} (hv : (v : Int) < 5) (hns : NS V2 g a c L (k + 1)) (hbt : But g V V2) (hg : g < W.heap.size) : KC W g a c L k i b0 b2 b4 true b7 b8 b9 b10 b11 x12 x14 x16 (.int .i64 v) x19 x20 x21 x5 V2 := by
  exact ⟨h.o11, h.o12, h.bt.trans hbt, hns, (fun e => nomatch e),
   fun e => by obtain ⟨q, h1, h2, h3⟩ := h.f12 e; exact ⟨q, h1, h2, h3.but hbt (by omega)⟩,
   fun e => by obtain ⟨q, h1, h2, h3⟩ := h.f14 e; exact ⟨q, h1, h2, h3.but hbt (by omega)⟩,
   fun e => by obtain ⟨q, h1, h2, h3⟩ := h.f16 e; exact ⟨q, h1, h2, h3.but hbt (by omega)⟩,
   fun _ => ⟨v, by omega, rfl⟩,
   fun e => by obtain ⟨q, v, h0, h1, h2, h3⟩ := h.f19 e; exact ⟨q, v, h0, h1, h2, h3.but hbt (by omega)⟩,
   h.f20, h.f21,
   fun e e2 => by obtain ⟨q, h1, h2, h3⟩ := h.f5 e e2; exact ⟨q, h1, h2, h3.but hbt (by omega)⟩,
   fun e => by obtain ⟨q, m, h0, h1, h2, h3⟩ := h.d5 e; exact ⟨q, m, h0, h1, h2, h3.but hbt (by omega)⟩⟩
end
theorem KC.s11 {W : World} {g c k i : Nat} {a : Option Addr} {L : List Int} {b0 b2 b4 b6 b7 b8 : Bool} {x12 x14 x16 x18 x19 x20 x21 : Value} {V : World} {q : Nat} {m : Int} (h : KC W g a c L k i b0 b2 b4 b6 b7 b8 true true false x12 x14 x16 x18 x19 x20 x21 (.pointer (some ⟨q, 0, none⟩)) V) (hq1 : W.heap.size ≤ q) (hq2 : Bx V q (acA zAc) 49) (hm : W64 m) (hg : g < W.heap.size) (ha : L ≠ [] → ∀ x, a = some x → x.block < W.heap.size) (hZ : Bx (V.setRow q (acA (nm4.getD i mtS, m, 0))) q (acA (nm4.getD i mtS, m, 0)) 49) : KC W g a c L k i b0 b2 b4 b6 b7 b8 true true true x12 x14 x16 x18 x19 x20 x21 (.pointer (some ⟨q, 0, none⟩)) (V.setRow q (acA (nm4.getD i mtS, m, 0))) := by
  have hbt : But q V (V.setRow q (acA (nm4.getD i mtS, m, 0))) := But.setRow V _
  have hne : ∀ {q2 : Nat} {cs : Array Value} {ty : Nat}, Bx V q2 cs ty → ty ≠ 49 → q2 ≠ q := fun hb hty e => by
    subst e
    unfold Bx at hb hq2
    rw [hb] at hq2
    simp only [Option.some.injEq, Obj.cells.injEq] at hq2
    exact hty hq2.2.1
  exact ⟨fun _ => rfl, fun _ => rfl, ⟨belowRow h.bt.1 (by omega) _, fun k2 hk hn => (hbt.2 k2 (Nat.lt_of_lt_of_le hk h.bt.1.size) (by omega)).trans (h.bt.2 k2 hk hn)⟩, h.ns.butA hbt hq1 hg ha, fun e => (h.n0 e).butA hbt hq1 hg ha,
   fun e => by obtain ⟨q2, h1, h2, h3⟩ := h.f12 e; exact ⟨q2, h1, h2, h3.but hbt (hne h3 (by decide))⟩,
   fun e => by obtain ⟨q2, h1, h2, h3⟩ := h.f14 e; exact ⟨q2, h1, h2, h3.but hbt (hne h3 (by decide))⟩,
   fun e => by obtain ⟨q2, h1, h2, h3⟩ := h.f16 e; exact ⟨q2, h1, h2, h3.but hbt (hne h3 (by decide))⟩,
   h.f18,
   fun e => by obtain ⟨q2, v, h0, h1, h2, h3⟩ := h.f19 e; exact ⟨q2, v, h0, h1, h2, h3.but hbt (hne h3 (by decide))⟩,
   h.f20, h.f21, (fun _ e => nomatch e), fun _ => ⟨q, m, hm, rfl, hq1, hZ⟩⟩
theorem sub_one {ρ : Operand → Value} {o : Oper} {x : Operand} (ho : o.op = .binOp .sub 3 x (.const (.int .i64 1)) 3) (m : Nat) (hm : m ≤ 1000000) (hx : ρ x = .int .i64 m) (w : World) (hρ : ρ (.const (.int .i64 1)) = .int .i64 1 := by rfl) : (execOp ρ o).run Tryz.prog w = .ok (.value (.int .i64 ((m : Int) - 1))) w := by
  have hw : IntKind.i64.wrap ((m : Int) - 1) = (m : Int) - 1 := by rw [IntKind.wrap_i64]; omega
  unfold execOp
  simp only [ho, hx, hρ]
  go_simp
theorem own_gt {w w' : World} {g B : Nat} {v : Value} {A : List Ac} (h : RowA w B v A) (hb : But g w w') (hg : g < B) (hs : B ≤ w.heap.size) : RowA w' B v A := own_but h hb hg
theorem But.more2 {g : Nat} {a b c : World} (h : But g a b) (hb : Below a.heap.size b c) (hg : g < a.heap.size) : But g a c := h.more hb (Nat.le_of_lt hg)
theorem ns_more {w V V2 : World} {g c k : Nat} {a : Option Addr} {L : List Int} (h : NS V g a c L k) (hb : Below w.heap.size V V2) (hg : g < w.heap.size) (ha : L ≠ [] → ∀ x, a = some x → x.block < w.heap.size) : NS V2 g a c L k := by
  obtain ⟨N, h1, h2, h3, h4⟩ := h
  refine ⟨N, h1, h2.below hg hb, ?_, h4⟩
  cases L with
  | nil => exact Cs.nil _ _
  | cons x r =>
    intro j v hj
    obtain ⟨b, off, rfl, hb2, hc⟩ := h3 j v hj
    have hlt := ha (by simp) _ rfl
    exact ⟨b, off, rfl, Nat.lt_of_lt_of_le hb2 hb.size, (hb.cell (p := ⟨b, off + j, none⟩) hlt).trans hc⟩
theorem but_at {W V V2 : World} {g q : Nat} (h : But g W V) (hb : But q V V2) (hq : W.heap.size ≤ q) (hg : g ≤ q := by omega) : But g W V2 := ⟨h.1.trans (hb.1.mono hg), fun k hk hn => (hb.2 k (Nat.lt_of_lt_of_le hk h.1.size) (by omega)).trans (h.2 k hk hn)⟩
theorem own_len {w : World} {B k d : Nat} {p : Option Addr} {A : List Ac} (h : RowA w B (.slice p k d) A) : A.length = k := by
  obtain ⟨a, c, e, -, -⟩ := h.cs
  simp only [Value.slice.injEq] at e
  exact e.2.1.symm
def AcO (w : World) (g : Nat) (a : Option Addr) (c : Nat) (L : List Int) (k : Nat) (e : Ending) (w' : World) : Prop := ∃ ra rc A, e = .returned (.slice ra (List.length A) rc) ∧ RowA w' w.heap.size (.slice ra A.length rc) A ∧ (∀ x, x ∈ A → AcQ x) ∧ A.length ≤ 4 ∧ NS w' g a c L (k + 13) ∧ But g w w'
set_option maxRecDepth 100000 in
set_option maxHeartbeats 8000000 in
theorem mk_accounts {w : World} {g c k : Nat} {a : Option Addr} {L : List Int} (h : NS w g a c L k) (hl : L.length ≤ 100000) (hk : k ≤ 10000) : Calls Tryz.prog 48 #[.pointer (some ⟨g, 0, none⟩)] w (AcO w g a c L k) := by
  have HL := Lib.hid hl
  have HKK := Lib.hid hk
  have HG := Lib.hid h.lt
  have HAB := Lib.hid (fun h1 x hx => h.ab h1 x hx)
  have CX := ns_next h hl (by omega) 4 (by decide) (by decide)
  have HQ4 := Lib.hid nm4_ok
  clear h hl hk
  go_enter Tryz.func48, Tryz.ntmps48
  go_upto_region 1 with fail
  refine wl <| gz1 (.slice none 0 0) <| wn ?_
  simp only [pu]
  go_upto_region 2 with fail
  refine wl <| gz1 (.pointer (some ⟨g, 0, none⟩)) <| gze (fun v w' => ∃ q : Nat, v = .int .i64 q ∧ (q : Int) < 4 ∧ NS w' g a c L (k + 1) ∧ But g w w') ((CX).mono fun e w' z => by obtain ⟨q, h1, h2⟩ := z; exact ⟨_, h1, q, rfl, h2⟩) (fun vv V1 hq => ?_)
  obtain ⟨v1, rfl, hv1, hns1, hbut1⟩ := hq
  simp only [pu]
  refine gz1 (.int .i64 v1) <| wn ?_
  simp only [pu]
  have HN1 := Lib.hid hns1
  have HB1 := Lib.hid hbut1
  clear hns1 hbut1 CX
  have hv1' : v1 < 4 := by omega
  go_wp2_with fail
  go_loopg [3, 4] (v1 + 1) (fun gg s3 s4 wx => ∃ (z : Int) (p3 : Option Addr) (k3 d3 : Nat) (A : List Ac), s3 = .slice p3 k3 d3 ∧ s4 = .int .i64 z ∧ -1 ≤ z ∧ z ≤ 3 ∧ (A.length : Int) + z ≤ 3 ∧ Hid (RowA wx w.heap.size (.slice p3 k3 d3) A) ∧ Hid (∀ x, x ∈ A → AcQ x) ∧ Hid (NS wx g a c L (k + 1 + 3 * A.length)) ∧ Hid (But g w wx) ∧ ((gg : Nat) : Int) = z + 1)
  case atStart => exact ⟨v1, none, 0, 0, [], rfl, rfl, by omega, by omega, by simp only [List.length_nil]; omega, Lib.hid (World.ownsRow_nil _ _ _ _), Lib.hid (fun x hx => by cases hx), HN1, HB1, by omega⟩
  case round =>
    obtain ⟨z, p3, k3, d3, A, rfl, rfl, hz1, hz2, hal, HR, HQ, HN, HB, hg⟩ := hrel
    clear HN1 HB1
    by_cases hlt : 0 ≤ z
    · skip
      obtain ⟨i, rfl⟩ : ∃ i : Nat, z = i := ⟨z.toNat, by omega⟩
      have hi4 : i < 4 := by omega
      have HG2 : Hid (gk = i + 1 ∧ i + A.length ≤ 3) := Lib.hid ⟨by omega, by omega⟩
      obtain ⟨kk, hkk⟩ : ∃ kk, k + 1 + 3 * A.length = kk := ⟨_, rfl⟩
      have HK2 : Hid (kk = k + 1 + 3 * A.length ∧ kk ≤ 20000) := Lib.hid ⟨hkk.symm, by have := HKK.out; omega⟩
      rw [hkk] at HN
      have HGW : Hid (g < wr.heap.size) := Lib.hid HN.out.lt
      have HWS : Hid (w.heap.size ≤ wr.heap.size) := Lib.hid HB.out.1.size
      have HABW := Lib.hid (fun h1 x hx => HN.out.ab h1 x hx)
      have CX5 : ∀ V, NS V g a c L kk → Calls Tryz.prog 23 #[.pointer (some ⟨g, 0, none⟩), .int .i64 5] V (NxO V g a c L kk 5) := fun V hV => ns_next hV HL.out (by have := HK2.out.2; omega) 5 (by decide) (by decide)
      have h0 : KC wr g a c L kk i false false false false false false false false false u12 u14 u16 u18 u19 u20 u21 u5 wr.drew := ⟨(fun h => nomatch h), (fun h => nomatch h), ⟨(Below.refl _ _).drew, fun _ _ _ => rfl⟩, (NS.mono (w := wr.drew) HN.out (Nat.le_succ _)), fun _ => HN.out, (fun h => nomatch h), (fun h => nomatch h), (fun h => nomatch h), (fun h => nomatch h), (fun h => nomatch h), (fun h => nomatch h), (fun h => nomatch h), (fun h => nomatch h), (fun h => nomatch h)⟩
      clear hkk hz1 hz2 hal hg HN
      go_upto_region 3 with fail
      refine wl <| gz1 (.int .i64 i) <| gzb (geq_n rfl (i) (0) dT) <| wn ?_
      simp only [pu]
      go_upto_region 5 with fail
      refine wp_region_inv (fun listed act9 V => ∃ b0 b1 b2 b3 b4 b5 b6 b7 b8 b9 b10 b11 : Bool, ∃ x12 x14 x16 x18 x19 x20 x21 x5 : Value, listed = #[b0, b1, b2, b3, b4, b5, b6, b7, b8, b9, b10, b11] ∧ act9 = { tmps := #[.pointer (some ⟨g, 0, none⟩), undef, .slice none 0 0, .slice p3 k3 d3, .int .i64 i, x5, .pointer (some ⟨g, 0, none⟩), .int .i64 v1, .int .i64 i, .bool true, u10, u11, x12, (cond b1 (.int .i64 i) (u13)), x14, (cond b3 (.string (nm4.getD i mtS)) (u15)), x16, (cond b5 (.pointer (some ⟨g, 0, none⟩)) (u17)), x18, x19, x20, x21, u22, u23, u24, u25, u26, u27, u28, u29, u30, u31, u32, u33, u34, undef], defers := [] } ∧ KC wr g a c L kk i b0 b2 b4 b6 b7 b8 b9 b10 b11 x12 x14 x16 x18 x19 x20 x21 x5 V) (by kernel_rfl) (by kernel_rfl) ?_ ?_ ?_
      · exact ⟨false, false, false, false, false, false, false, false, false, false, false, false, u12, u14, u16, u18, u19, u20, u21, u5, rfl, rfl, h0⟩
      · intro i9 listed act9 V hi9 hr hJ
        obtain ⟨b0, b1, b2, b3, b4, b5, b6, b7, b8, b9, b10, b11, x12, x14, x16, x18, x19, x20, x21, x5, rfl, rfl, hF⟩ := hJ
        have hi2 : i9 < 12 := hi9
        have hi3 : i9 = 0 ∨ i9 = 1 ∨ i9 = 2 ∨ i9 = 3 ∨ i9 = 4 ∨ i9 = 5 ∨ i9 = 6 ∨ i9 = 7 ∨ i9 = 8 ∨ i9 = 9 ∨ i9 = 10 ∨ i9 = 11 := by omega
        rcases hi3 with rfl | rfl | rfl | rfl | rfl | rfl | rfl | rfl | rfl | rfl | rfl | rfl
        · obtain rfl : b0 = false := ready_self hr
          refine st_build rfl (by kernel_rfl) (some 12) rfl 113 4 #[(0, .const (.string ⟨#[97, 110, 110]⟩)), (1, .const (.string ⟨#[98, 111, 98]⟩)), (2, .const (.string ⟨#[101, 118, 101]⟩)), (3, .const (.string ⟨#[122, 111, 101]⟩))] rfl #[(0, .string ⟨#[97, 110, 110]⟩), (1, .string ⟨#[98, 111, 98]⟩), (2, .string ⟨#[101, 118, 101]⟩), (3, .string ⟨#[122, 111, 101]⟩)] (by kernel_rfl) (.slice (some ⟨V.heap.size, 0, none⟩) 4 4) _ (build_nm4 V) ?_
          have hF2 := hF.al HGW.out (.cells (strs nm4).toArray 9)
          exact ⟨true, b1, b2, b3, b4, b5, b6, b7, b8, b9, b10, b11, _, _, _, _, _, _, _, _, rfl, rfl, { hF2 with f12 := fun _ => ⟨_, rfl, hF.bt.1.size, heap_alloc_last V _⟩ }⟩
        · obtain rfl : b1 = false := ready_self hr
          refine st_val rfl (by kernel_rfl) (some 13) rfl (.int .i64 i) V (by kernel_rfl) ?_
          exact ⟨b0, true, b2, b3, b4, b5, b6, b7, b8, b9, b10, b11, x12, x14, x16, x18, x19, x20, x21, x5, rfl, rfl, hF⟩
        · obtain rfl : b2 = false := ready_self hr
          obtain rfl : b0 = true := ready_dep hr 0 (by kernel_rfl)
          obtain rfl : b1 = true := ready_dep hr 1 (by kernel_rfl)
          obtain ⟨q, rfl, hq1, hq2⟩ := hF.f12 rfl
          refine st_val rfl (by kernel_rfl) (some 14) rfl (.pointer (some ⟨q, 0 + i, none⟩)) V (idx_str q 0 4 4 i hi4 _ _ _ rfl (by kernel_rfl) (by kernel_rfl)) ?_
          exact ⟨true, true, true, b3, b4, b5, b6, b7, b8, b9, b10, b11, _, _, _, _, _, _, _, _, rfl, rfl, { hF with f14 := fun _ => ⟨q, rfl, hq1, hq2⟩ }⟩
        · obtain rfl : b3 = false := ready_self hr
          obtain rfl : b2 = true := ready_dep hr 2 (by kernel_rfl)
          obtain ⟨q, rfl, hq1, hq2⟩ := hF.f14 rfl
          refine st_load rfl (by kernel_rfl) (some 15) rfl 9 (.tmp 14) rfl ⟨q, 0 + i, none⟩ (.string (nm4.getD i mtS)) (by kernel_rfl) (load_str hq2 (k := i) hi4) ?_
          exact ⟨b0, b1, true, true, b4, b5, b6, b7, b8, b9, b10, b11, _, _, _, _, _, _, _, _, rfl, rfl, hF⟩
        · obtain rfl : b4 = false := ready_self hr
          refine st_build rfl (by kernel_rfl) (some 16) rfl 36 5 #[(0, .const (.int .u64 100000)), (1, .const (.int .u64 5000)), (2, .const (.int .u64 700)), (3, .const (.int .u64 0)), (4, .const (.int .u64 1099511627776))] rfl #[(0, .int .u64 100000), (1, .int .u64 5000), (2, .int .u64 700), (3, .int .u64 0), (4, .int .u64 1099511627776)] (by kernel_rfl) (.slice (some ⟨V.heap.size, 0, none⟩) 5 5) _ (build_bal V) ?_
          have hF2 := hF.al HGW.out (.cells (u64s bal5).toArray 23)
          exact ⟨b0, b1, b2, b3, true, b5, b6, b7, b8, b9, b10, b11, _, _, _, _, _, _, _, _, rfl, rfl, { hF2 with f16 := fun _ => ⟨_, rfl, hF.bt.1.size, heap_alloc_last V _⟩ }⟩
        · obtain rfl : b5 = false := ready_self hr
          refine st_val rfl (by kernel_rfl) (some 17) rfl (.pointer (some ⟨g, 0, none⟩)) V (by kernel_rfl) ?_
          exact ⟨b0, b1, b2, b3, b4, true, b6, b7, b8, b9, b10, b11, x12, x14, x16, x18, x19, x20, x21, x5, rfl, rfl, hF⟩
        · obtain rfl : b6 = false := ready_self hr
          obtain rfl : b5 = true := ready_dep hr 5 (by kernel_rfl)
          refine st_call rfl (by kernel_rfl) (some 18) rfl 23 #[.pointer (some ⟨g, 0, none⟩), .int .i64 5] (by kernel_rfl) ((CX5 V (hF.n0 rfl)).mono ?_)
          rintro e V2 ⟨v, rfl, hv, hns, hbt⟩
          exact ⟨_, rfl, b0, b1, b2, b3, b4, true, true, b7, b8, b9, b10, b11, _, _, _, _, _, _, _, _, rfl, rfl, hF.s6 hv hns hbt HGW.out⟩
        · obtain rfl : b7 = false := ready_self hr
          obtain rfl : b4 = true := ready_dep hr 4 (by kernel_rfl)
          obtain rfl : b6 = true := ready_dep hr 6 (by kernel_rfl)
          obtain ⟨q, rfl, hq1, hq2⟩ := hF.f16 rfl
          obtain ⟨v, hv, rfl⟩ := hF.f18 rfl
          refine st_val rfl (by kernel_rfl) (some 19) rfl (.pointer (some ⟨q, 0 + v, none⟩)) V (idx_u64 q 0 5 5 v hv _ _ _ rfl (by kernel_rfl) (by kernel_rfl)) ?_
          exact ⟨b0, b1, b2, b3, true, b5, true, true, b8, b9, b10, b11, _, _, _, _, _, _, _, _, rfl, rfl, { hF with f19 := fun _ => ⟨q, v, hv, rfl, hq1, hq2⟩ }⟩
        · obtain rfl : b8 = false := ready_self hr
          obtain rfl : b7 = true := ready_dep hr 7 (by kernel_rfl)
          obtain ⟨q, v, hv, rfl, hq1, hq2⟩ := hF.f19 rfl
          refine st_load rfl (by kernel_rfl) (some 20) rfl 23 (.tmp 19) rfl ⟨q, 0 + v, none⟩ (.int .u64 (bal5.getD v 0)) (by kernel_rfl) (load_u64 hq2 (k := v) hv) ?_
          exact ⟨b0, b1, b2, b3, b4, b5, b6, true, true, b9, b10, b11, _, _, _, _, _, _, _, _, rfl, rfl, { hF with f20 := fun _ => ⟨_, bal_w v, rfl⟩ }⟩
        · obtain rfl : b9 = false := ready_self hr
          obtain rfl : b3 = true := ready_dep hr 3 (by kernel_rfl)
          obtain rfl : b8 = true := ready_dep hr 8 (by kernel_rfl)
          obtain ⟨m, hm, rfl⟩ := hF.f20 rfl
          refine st_val rfl (by kernel_rfl) (some 21) rfl (.agg (acA ((nm4.getD i mtS), m, 0))) V (by kernel_rfl) ?_
          exact ⟨b0, b1, b2, true, b4, b5, b6, b7, true, true, b10, b11, _, _, _, _, _, _, _, _, rfl, rfl, { hF with o12 := fun _ => rfl, f21 := fun _ => ⟨m, hm, rfl⟩ }⟩
        · obtain rfl : b10 = false := ready_self hr
          have h11 := ff hF.o11 rfl
          subst h11
          refine st_val rfl (by kernel_rfl) (some 5) rfl (.pointer (some ⟨V.heap.size, 0, none⟩)) (V.alloc (.cells (acA zAc) 49)) (by kernel_rfl) ?_
          have hF2 := hF.al HGW.out (.cells (acA zAc) 49)
          exact ⟨b0, b1, b2, b3, b4, b5, b6, b7, b8, b9, true, false, _, _, _, _, _, _, _, _, rfl, rfl, { hF2 with o11 := (fun h => nomatch h), f5 := fun _ _ => ⟨_, rfl, hF.bt.1.size, heap_alloc_last V _⟩, d5 := (fun h => nomatch h) }⟩
        · obtain rfl : b11 = false := ready_self hr
          obtain rfl : b10 = true := ready_dep hr 10 (by kernel_rfl)
          obtain rfl : b9 = true := ready_dep hr 9 (by kernel_rfl)
          obtain ⟨q, rfl, hq1, hq2⟩ := hF.f5 rfl rfl
          obtain ⟨m, hm, rfl⟩ := hF.f21 rfl
          obtain ⟨hst, hZ⟩ := store_ac (y := ((nm4.getD i mtS), m, 0)) hq2
          refine st_storeA rfl (by kernel_rfl) rfl 49 (.tmp 5) (.tmp 21) rfl (.pointer (some ⟨q, 0, none⟩)) (.agg (acA ((nm4.getD i mtS), m, 0))) (by kernel_rfl) (by kernel_rfl) _ hst ?_
          exact ⟨b0, b1, b2, b3, b4, b5, b6, b7, b8, true, true, true, _, _, _, _, _, _, _, _, rfl, rfl, hF.s11 hq1 hq2 hm HGW.out HABW.out hZ⟩
      · intro act9 V hJ
        obtain ⟨b0, b1, b2, b3, b4, b5, b6, b7, b8, b9, b10, b11, x12, x14, x16, x18, x19, x20, x21, x5, he, rfl, hF⟩ := hJ
        have he : (#[true, true, true, true, true, true, true, true, true, true, true, true] : Array Bool) = #[b0, b1, b2, b3, b4, b5, b6, b7, b8, b9, b10, b11] := he
        simp only [Array.mk.injEq, List.cons.injEq, and_true] at he
        obtain ⟨rfl, rfl, rfl, rfl, rfl, rfl, rfl, rfl, rfl, rfl, rfl, rfl⟩ := he
        simp only [cond_true]
        obtain ⟨q, m, hm, rfl, hq1, hbx⟩ := hF.d5 rfl
        have hns5 := hF.ns
        have hbt5 := hF.bt
        have hnm := HQ4.out i hi4
        generalize nm4.getD i mtS = nm at *
        clear hF h0 CX5
        go_upto_region 6 with fail
        refine wl <| gz1 (.pointer (some ⟨g, 0, none⟩)) <|
          gze (fun v w' => ∃ q : Nat, v = .int .i64 q ∧ (q : Int) < 6 ∧ NS w' g a c L ((kk + 1) + 1) ∧ But g V w') ((ns_next hns5 HL.out (by have := HK2.out.2; omega) 6 (by decide) (by decide)).mono fun e w' z => by obtain ⟨q, h1, h2⟩ := z; exact ⟨_, h1, q, rfl, h2⟩) (fun vv V6 hq => ?_)
        obtain ⟨v6, rfl, hv6, hns6, hbut6⟩ := hq
        simp only [pu]
        have hX6 := hbx.but hbut6 (by have := HGW.out; omega)
        have HBT := Lib.hid (hbt5.trans hbut6)
        have HN6 := Lib.hid hns6
        clear hns5 hbt5 hbx hbut6 hns6
        by_cases hv0 : v6 = 0
        · skip
          subst hv0
          refine gzb (eql_n rfl ((0 : Nat)) (0) (decide_eq_true (rfl))) <| wn ?_
          simp only [pu]
          have hbs := build_seq V6
          have hbq : Bx (V6.alloc (.cells (u64s seq3).toArray 23)) V6.heap.size (u64s seq3).toArray 23 := heap_alloc_last V6 _
          have hbw : Below V6.heap.size V6 (V6.alloc (.cells (u64s seq3).toArray 23)) := (Below.refl _ V6).alloc (Nat.le_refl _) _
          have hX6b := hX6.below hX6.lt hbw
          have hn7 := HN6.out.below hbw
          have hbt7 := But.of_below hbw (Nat.le_of_lt HN6.out.lt)
          have hqne : V6.heap.size ≠ g := by have := HN6.out.lt; omega
          have hqn2 : V6.heap.size ≠ q := by have := hX6.lt; omega
          generalize V6.alloc (.cells (u64s seq3).toArray 23) = V65 at *
          have CX3 := ns_next hn7 HL.out (by have := HK2.out.2; omega) 3 (by decide) (by decide)
          obtain ⟨g7, hg7⟩ : ∃ g7, V6.heap.size = g7 := ⟨_, rfl⟩
          rw [hg7] at hbq hbs hqne hqn2
          go_upto_region 7 with fail
          apply wp_region_lit
          refine gw_build (by kernel_rfl) (some 25) rfl 36 3 #[(0, .const (.int .u64 5)), (1, .const (.int .u64 18446744073709551615)), (2, .const (.int .u64 18446744073709551614))] rfl #[(0, .int .u64 5), (1, .int .u64 18446744073709551615), (2, .int .u64 18446744073709551614)] (by kernel_rfl) (.slice (some ⟨g7, 0, none⟩) 3 3) _ hbs ?_
          simp only [pu]
          refine gz1 (.pointer (some ⟨g, 0, none⟩)) <| gze (fun v w' => ∃ q : Nat, v = .int .i64 q ∧ (q : Int) < 3 ∧ NS w' g a c L ((kk + 1 + 1) + 1) ∧ But g V65 w') ((CX3).mono fun e w' z => by obtain ⟨q, h1, h2⟩ := z; exact ⟨_, h1, q, rfl, h2⟩) (fun vv V7 hq => ?_)
          obtain ⟨v7, rfl, hv7, hns7, hbut7⟩ := hq
          have hbq7 := hbq.but hbut7 hqne
          have hX7 := hX6b.but hbut7 (by have := HGW.out; omega)
          have hv7n : v7 < 3 := by omega
          obtain ⟨V8, hst8, hX8, -, hbut8⟩ := st_cell (i := 2) (ty := 23) (v := .int .u64 (seq3.getD v7 0)) (cs' := acA (nm, m, seq3.getD v7 0)) (w0 := V7) (B := q) hX7 (Below.refl _ _) (Nat.le_refl _) (by show 2 < 3; decide) rfl (by kernel_rfl) rfl
          simp only [pu]
          refine gzv (.pointer (some ⟨g7, 0 + v7, none⟩)) (idx_u64 g7 0 3 3 v7 hv7n _ _ _ rfl (by kernel_rfl) (by kernel_rfl)) <| gzl rfl ⟨g7, 0 + v7, none⟩ (.int .u64 (seq3.getD v7 0)) (load_u64 hbq7 (k := v7) hv7n) <| gz1 (.pointer (some ⟨q, 2, none⟩)) <| gzs rfl (hst8) <| wn ?_
          simp only [pu]
          have hsq := seq_w v7
          generalize seq3.getD v7 0 = sq at *
          have HBT8 := Lib.hid (but_at (HBT.out.trans (hbt7.trans hbut7)) hbut8 hq1 (by have := HGW.out; omega))
          have HN8 := Lib.hid ((hns7.butA hbut8 hq1 HGW.out HABW.out))
          clear hbs hbq hbw hX6b hn7 hbt7 CX3 hbq7 hX7 hst8 hbut8 hbut7 hns7 HBT HN6
          obtain ⟨a7, c7, V9, hap, hr9, hb9⟩ := grow_ac (w := V8) (own_gt HR.out HBT8.out HG.out HWS.out) (Nat.le_trans HWS.out HBT8.out.1.size) (nm, m, sq) (by have := HG2.out; omega)
          have HR9 := Lib.hid hr9
          have HB9 := Lib.hid ((HB.out.trans HBT8.out).more2 hb9 HG.out)
          have HQ9 : Hid (∀ x, x ∈ A ++ [(nm, m, sq)] → AcQ x) := Lib.hid (fun x hx => by
            rcases List.mem_append.1 hx with hx | hx
            · exact HQ.out x hx
            · rw [List.mem_singleton] at hx
              subst hx
              exact ⟨hnm, hm, hsq⟩)
          have HN9 := Lib.hid (ns_more HN8.out hb9 HG.out HAB.out)
          have HLN : Hid (A.length < (A ++ [(nm, m, sq)]).length ∧ (A ++ [(nm, m, sq)]).length = A.length + 1) := Lib.hid (by rw [List.length_append]; exact ⟨Nat.lt_succ_self _, rfl⟩)
          have hbd := build_ac (nm, m, sq) V8
          go_upto_region 8 with fail
          refine wl <| gz1 (.slice p3 k3 d3) <| gzl rfl ⟨q, 0, none⟩ (.agg (acA (nm, m, sq))) (load_acb hX8) ?_
          simp only [pu]
          refine gw_build (by kernel_rfl) (some 33) rfl 22 1 #[(0, .tmp 32)] rfl #[(0, .agg (acA (nm, m, sq)))] (by kernel_rfl) (.slice (some ⟨V8.heap.size, 0, none⟩) 1 1) _ hbd ?_
          simp only [pu]
          refine append_step rfl (some 34) rfl 22 rfl (.tmp 31) (.tmp 33) 22 rfl (.slice p3 k3 d3) (.slice (some ⟨V8.heap.size, 0, none⟩) 1 1) (.slice a7 (A ++ [(nm, m, sq)]).length c7) V9 (by kernel_rfl) (by kernel_rfl) hap ?_
          simp only [pu]
          refine gz1 (.slice a7 (A ++ [(nm, m, sq)]).length c7) <| wn ?_
          simp only [pu]
          clear hap hbd hr9 hb9
          go_upto_region 4 with fail
          refine wl <| gz1 (.int .i64 i) <| gzv (.int .i64 ((i : Int) - 1)) (sub_one rfl i (by omega) (by kernel_rfl) _) <| gz1 (.int .i64 ((i : Int) - 1)) <| wn ?_
          simp only [pu]
          go_wp2_with fail
          go_roundg i
          case measure => have := HG2.out; omega
          case rel => exact ⟨(i : Int) - 1, a7, _, c7, A ++ [(nm, m, sq)], rfl, rfl, by omega, by omega, by have := HG2.out; have := HLN.out.2; omega, HR9, HQ9, Lib.hid (HN9.out.mono (by have := HK2.out.1; have := HLN.out.2; omega)), HB9, by omega⟩
        · skip
          refine gzb (eql_n rfl (v6) (0) dF) <| wn ?_
          simp only [pu]
          have hsq : W64 0 := w64_0
          obtain ⟨a7, c7, V9, hap, hr9, hb9⟩ := grow_ac (w := V6) (own_gt HR.out HBT.out HG.out HWS.out) (Nat.le_trans HWS.out HBT.out.1.size) (nm, m, 0) (by have := HG2.out; omega)
          have HR9 := Lib.hid hr9
          have HB9 := Lib.hid ((HB.out.trans HBT.out).more2 hb9 HG.out)
          have HQ9 : Hid (∀ x, x ∈ A ++ [(nm, m, 0)] → AcQ x) := Lib.hid (fun x hx => by
            rcases List.mem_append.1 hx with hx | hx
            · exact HQ.out x hx
            · rw [List.mem_singleton] at hx
              subst hx
              exact ⟨hnm, hm, hsq⟩)
          have HN9 := Lib.hid (ns_more HN6.out hb9 HG.out HAB.out)
          have HLN : Hid (A.length < (A ++ [(nm, m, 0)]).length ∧ (A ++ [(nm, m, 0)]).length = A.length + 1) := Lib.hid (by rw [List.length_append]; exact ⟨Nat.lt_succ_self _, rfl⟩)
          have hbd := build_ac (nm, m, 0) V6
          go_upto_region 8 with fail
          refine wl <| gz1 (.slice p3 k3 d3) <| gzl rfl ⟨q, 0, none⟩ (.agg (acA (nm, m, 0))) (load_acb hX6) ?_
          simp only [pu]
          refine gw_build (by kernel_rfl) (some 33) rfl 22 1 #[(0, .tmp 32)] rfl #[(0, .agg (acA (nm, m, 0)))] (by kernel_rfl) (.slice (some ⟨V6.heap.size, 0, none⟩) 1 1) _ hbd ?_
          simp only [pu]
          refine append_step rfl (some 34) rfl 22 rfl (.tmp 31) (.tmp 33) 22 rfl (.slice p3 k3 d3) (.slice (some ⟨V6.heap.size, 0, none⟩) 1 1) (.slice a7 (A ++ [(nm, m, 0)]).length c7) V9 (by kernel_rfl) (by kernel_rfl) hap ?_
          simp only [pu]
          refine gz1 (.slice a7 (A ++ [(nm, m, 0)]).length c7) <| wn ?_
          simp only [pu]
          clear hap hbd hr9 hb9
          go_upto_region 4 with fail
          refine wl <| gz1 (.int .i64 i) <| gzv (.int .i64 ((i : Int) - 1)) (sub_one rfl i (by omega) (by kernel_rfl) _) <| gz1 (.int .i64 ((i : Int) - 1)) <| wn ?_
          simp only [pu]
          go_wp2_with fail
          go_roundg i
          case measure => have := HG2.out; omega
          case rel => exact ⟨(i : Int) - 1, a7, _, c7, A ++ [(nm, m, 0)], rfl, rfl, by omega, by omega, by have := HG2.out; have := HLN.out.2; omega, HR9, HQ9, Lib.hid (HN9.out.mono (by have := HK2.out.1; have := HLN.out.2; omega)), HB9, by omega⟩
    · skip
      have HE := Lib.hid (⟨p3, d3, A, by rw [own_len HR.out], by rw [own_len HR.out]; exact HR.out, HQ.out, by omega, HN.out.mono (by omega), HB.out⟩ : AcO w g a c L k (.returned (.slice p3 k3 d3)) wr)
      clear HR HQ HN HB hg
      go_upto_region 3 with fail
      refine wl <| gz1 (.int .i64 z) <| gzb (geq_n rfl (z) (0) dF) <| wn ?_
      simp only [pu]
      go_upto_region 9 with fail
      refine wl <| gz2 (.slice p3 k3 d3) (.slice p3 k3 d3) <| wn ?_
      simp only [pu]
      go_wp2_with fail
      go_ret
      exact HE.out
end Go.Proofs.YtglglhcnofbagaaGreat
namespace Go.Proofs.YtglglhcnofbagaaGreat
open Go.RowKit
set_option linter.unusedSimpArgs false
set_option linter.unusedVariables false

def NSn (w : World) (g : Nat) (a : Option Addr) (c : Nat) (L : List Int) (N : Nat) : Prop := Bx w g #[.slice a L.length c, .int .i64 N] 94 ∧ Cs w a (icells L) ∧ (L ≠ [] → ∀ x, a = some x → x.block ≠ g)
theorem NSn.ns {w : World} {g c N k : Nat} {a : Option Addr} {L : List Int} (h : NSn w g a c L N) (hk : N ≤ k) : NS w g a c L k := ⟨N, hk, h⟩
theorem NSn.below {w w' : World} {g c N : Nat} {a : Option Addr} {L : List Int} (h : NSn w g a c L N) (hb : Below w.heap.size w w') : NSn w' g a c L N := ⟨h.1.below h.1.lt hb, h.2.1.below hb, h.2.2⟩
theorem NSn.but {w w' : World} {g q c N : Nat} {a : Option Addr} {L : List Int} (h : NSn w g a c L N) (hb : But q w w') (hq : g ≠ q) (ha : L ≠ [] → ∀ x, a = some x → x.block < q) : NSn w' g a c L N :=
  ⟨h.1.but hb hq, cs_but0 h.2.1 hb (fun h5 x hx => by have := ha h5 x hx; omega), h.2.2⟩
theorem nsn_next {w : World} {g c N v : Nat} {a : Option Addr} {L : List Int} (h : NSn w g a c L N) (hl : L.length ≤ 100000) (hN : N ≤ 100000) (n : Int) (hn : 0 < n) (hn2 : n ≤ 1000000) (hv : pl (L.getD N 0) n = v) : Calls Tryz.prog 23 #[.pointer (some ⟨g, 0, none⟩), .int .i64 n] w fun e w' => e = .returned (.int .i64 v) ∧ NSn w' g a c L (N + 1) ∧ But g w w' :=
  (mk_next g L a c N n w h.1 h.2.1 hl hN hn hn2).mono fun e w' q => ⟨by rw [q.1, hv], ⟨q.2.2, cs_but0 h.2.1 q.2.1 h.2.2, h.2.2⟩, q.2.1⟩
theorem pl_nat (L : List Int) (N : Nat) (n : Int) (hn : 0 < n) : ∃ v : Nat, pl (L.getD N 0) n = v ∧ (v : Int) < n := by
  have := pl_range (L.getD N 0) n hn
  exact ⟨(pl (L.getD N 0) n).toNat, by omega, by omega⟩
theorem W64.wrap (x : Int) : W64 (IntKind.u64.wrap x) := by
  have e : IntKind.u64.wrap x = x % 18446744073709551616 := by rw [IntKind.wrap_u64]
  rw [e]
  exact ⟨by omega, by omega⟩
section
variable {ρ : Operand → Value} {o : Oper} {x y : Operand}
theorem conv_iu (ho : o.op = .convert 3 23 x) (a : Int) (h0 : 0 ≤ a) (h1 : a ≤ 1000000) (hx : ρ x = .int .i64 a) (w : World) : (execOp ρ o).run Tryz.prog w = .ok (.value (.int .u64 a)) w := by
  have hw : IntKind.u64.wrap a = a := by rw [IntKind.wrap_u64]; omega
  unfold execOp
  simp only [ho, hx]
  go_simp
theorem mul_us (ho : o.op = .binOp .mul 23 x y 23) (a b : Int) (h0 : 0 ≤ a * b) (h1 : a * b ≤ 1000000000) (hx : ρ x = .int .u64 a) (hy : ρ y = .int .u64 b) (w : World) : (execOp ρ o).run Tryz.prog w = .ok (.value (.int .u64 (a * b))) w := by
  have hw : IntKind.u64.wrap (a * b) = a * b := by rw [IntKind.wrap_u64]; omega
  unfold execOp
  simp only [ho, hx, hy]
  go_simp
theorem add_us (ho : o.op = .binOp .add 23 x y 23) (a b : Int) (h0 : 0 ≤ a + b) (h1 : a + b ≤ 1000000000) (hx : ρ x = .int .u64 a) (hy : ρ y = .int .u64 b) (w : World) : (execOp ρ o).run Tryz.prog w = .ok (.value (.int .u64 (a + b))) w := by
  have hw : IntKind.u64.wrap (a + b) = a + b := by rw [IntKind.wrap_u64]; omega
  unfold execOp
  simp only [ho, hx, hy]
  go_simp
theorem mul_uw (ho : o.op = .binOp .mul 23 x y 23) (a b : Int) (hx : ρ x = .int .u64 a) (hy : ρ y = .int .u64 b) (w : World) : (execOp ρ o).run Tryz.prog w = .ok (.value (.int .u64 (IntKind.u64.wrap (a * b)))) w := by
  unfold execOp
  simp only [ho, hx, hy]
  go_simp
theorem add_uw (ho : o.op = .binOp .add 23 x y 23) (a b : Int) (hx : ρ x = .int .u64 a) (hy : ρ y = .int .u64 b) (w : World) : (execOp ρ o).run Tryz.prog w = .ok (.value (.int .u64 (IntKind.u64.wrap (a + b)))) w := by
  unfold execOp
  simp only [ho, hx, hy]
  go_simp
end
/-- A drawn transaction so far. -/
structure GQ (x : Txd) : Prop where
  snd : NmQ x.snd
  sq : W64 x.sq
  gas : 150 ≤ x.gas ∧ x.gas ≤ 1000
  fee : W64 x.fee
  memo : MmQ x.memo
  tr : ∀ y, y ∈ x.tr → NmQ y.1 ∧ 0 < y.2 ∧ W64 y.2
theorem valT_zero : ∀ {M : List Tf}, (∀ y, y ∈ M → NmQ y.1 ∧ 0 < y.2 ∧ W64 y.2) → valT M = 0
  | [], _ => rfl
  | y :: r, h => by
    have := h y (by simp)
    unfold valT
    rw [if_neg (by rw [this.1.1]; decide), if_neg (by omega), valT_zero (fun z hz => h z (by simp [hz]))]
theorem GQ.val {x : Txd} (h : GQ x) (h1 : 1 ≤ x.tr.length) (h2 : x.tr.length ≤ 16) : valX x = 0 := by
  unfold valX
  have := h.gas
  rw [if_neg (by rw [h.snd.1]; decide), if_neg (by omega), if_neg (by rw [h.memo.1]; decide), if_neg (by omega)]
  exact valT_zero h.tr
theorem GQ.b {x : Txd} (h : GQ x) : TxB x := ⟨h.sq, ⟨by have := h.gas; omega, by have := h.gas; omega⟩, h.fee, fun y hy => (h.tr y hy).2.2, by have := h.snd.2; omega, by have := h.memo.2; omega, fun y hy => by have := (h.tr y hy).1.2; omega⟩
/-- The memory while a transaction is drawn. -/
structure St (w : World) (g : Nat) (a : Option Addr) (c : Nat) (L : List Int) (N : Nat) (g4 g6 g7 : Nat) (ra : Option Addr) (rc : Nat) (A : List Ac) (co : Int) (B7 : Nat) (x : Txd) (a2 : Option Addr) (c2 : Nat) (V : World) : Prop where
  bt : But g w V
  ns : NSn V g a c L N
  row : Cs V ra (acc A)
  b4 : Bx V g4 #[.slice ra A.length rc, .int .u64 co] 25
  b6 : Bx V g6 (txA zX none 0) 46
  b7 : Bx V g7 (txA x a2 c2) 46
  rt : RowT V B7 (.slice a2 x.tr.length c2) x.tr
  sz : B7 ≤ V.heap.size
/-- How the blocks lie. -/
structure Ly (w : World) (g : Nat) (a : Option Addr) (L : List Int) (g4 g6 g7 : Nat) (ra : Option Addr) (A : List Ac) (B7 : Nat) : Prop where
  hg : g < w.heap.size
  h4 : w.heap.size ≤ g4
  h6 : w.heap.size ≤ g6
  h7 : w.heap.size ≤ g7
  n46 : g4 ≠ g6
  n47 : g4 ≠ g7
  n67 : g6 ≠ g7
  l4 : g4 < B7
  l6 : g6 < B7
  l7 : g7 < B7
  ab : L ≠ [] → ∀ x, a = some x → x.block < w.heap.size
  rb : acc A ≠ [] → ∀ x, ra = some x → x.block < w.heap.size ∧ x.block ≠ g
section
variable {w : World} {g : Nat} {a : Option Addr} {c : Nat} {L : List Int} {N g4 g6 g7 : Nat} {ra : Option Addr} {rc : Nat} {A : List Ac} {co : Int} {B7 : Nat} {x : Txd} {a2 : Option Addr} {c2 : Nat} {V : World}
theorem cs_same {V V2 : World} {a : Option Addr} {cs : List Value} (h : Cs V a cs) (hs : V.heap.size ≤ V2.heap.size) (hk : cs ≠ [] → ∀ x, a = some x → V2.heap[x.block]? = V.heap[x.block]?) : Cs V2 a cs := fun j v hj => by
  obtain ⟨b, off, rfl, hb, hc⟩ := h j v hj
  have hne : cs ≠ [] := by intro e; rw [e] at hj; simp at hj
  exact ⟨b, off, rfl, Nat.lt_of_lt_of_le hb hs, (World.cell?_of_block (a := ⟨b, off + j, none⟩) (hk hne ⟨b, off, none⟩ rfl)).trans hc⟩
theorem St.below (h : St w g a c L N g4 g6 g7 ra rc A co B7 x a2 c2 V) {V2 : World} (hb : Below V.heap.size V V2) : St w g a c L N g4 g6 g7 ra rc A co B7 x a2 c2 V2 :=
  ⟨h.bt.trans (But.of_below hb (Nat.le_of_lt h.ns.1.lt)), h.ns.below hb, h.row.below hb, h.b4.below h.b4.lt hb, h.b6.below h.b6.lt hb, h.b7.below h.b7.lt hb, h.rt.below hb, Nat.le_trans h.sz hb.size⟩
theorem St.call (h : St w g a c L N g4 g6 g7 ra rc A co B7 x a2 c2 V) (ly : Ly w g a L g4 g6 g7 ra A B7) {V2 : World} {N2 : Nat} (hns : NSn V2 g a c L N2) (hb : But g V V2) : St w g a c L N2 g4 g6 g7 ra rc A co B7 x a2 c2 V2 :=
  have h1 := ly.hg
  have h2 := ly.h4
  have h3 := ly.h6
  have h4 := ly.h7
  have h5 := ly.l7
  ⟨h.bt.trans hb, hns, cs_same h.row hb.1.size (fun hn y hy => hb.2 _ (Nat.lt_of_lt_of_le (ly.rb hn y hy).1 h.bt.1.size) (ly.rb hn y hy).2), h.b4.but hb (by omega), h.b6.but hb (by omega), h.b7.but hb (by omega), h.rt.but hb (by omega), Nat.le_trans h.sz hb.1.size⟩
theorem St.set (h : St w g a c L N g4 g6 g7 ra rc A co B7 x a2 c2 V) (ly : Ly w g a L g4 g6 g7 ra A B7) {V2 : World} {x' : Txd} (hb : But g7 V V2) (hx : Bx V2 g7 (txA x' a2 c2) 46) (ht : x'.tr = x.tr) : St w g a c L N g4 g6 g7 ra rc A co B7 x' a2 c2 V2 :=
  have h1 := ly.hg
  have h4 := ly.h7
  ⟨but_at h.bt hb h4 (by omega), h.ns.but hb (by omega) (fun hl y hy => Nat.lt_of_lt_of_le (ly.ab hl y hy) h4), cs_same h.row hb.1.size (fun hn y hy => hb.2 _ (Nat.lt_of_lt_of_le (ly.rb hn y hy).1 h.bt.1.size) (by have := (ly.rb hn y hy).1; omega)), h.b4.but hb ly.n47, h.b6.but hb ly.n67, hx, by rw [ht]; exact h.rt.but hb ly.l7, Nat.le_trans h.sz hb.1.size⟩
/-- Blocks from B7 on may change. -/
theorem St.far (h : St w g a c L N g4 g6 g7 ra rc A co B7 x a2 c2 V) (ly : Ly w g a L g4 g6 g7 ra A B7) {V2 : World} (hw : w.heap.size ≤ B7) (hb : Below B7 V V2) : But g w V2 ∧ NSn V2 g a c L N ∧ Cs V2 ra (acc A) ∧ Bx V2 g4 #[.slice ra A.length rc, .int .u64 co] 25 ∧ Bx V2 g6 (txA zX none 0) 46 ∧ Bx V2 g7 (txA x a2 c2) 46 ∧ B7 ≤ V2.heap.size :=
  have h1 := ly.hg
  ⟨h.bt.more (hb.mono hw) (Nat.le_of_lt h1), ⟨h.ns.1.below (by omega) hb, by
    obtain ⟨_, _, _, q, _⟩ := ns_more (w := w) (h.ns.ns (Nat.le_refl _)) (hb.mono hw) h1 ly.ab
    exact q, h.ns.2.2⟩, cs_same h.row hb.size (fun hn y hy => hb.block _ (Nat.lt_of_lt_of_le (ly.rb hn y hy).1 hw)), h.b4.below ly.l4 hb, h.b6.below ly.l6 hb, h.b7.below ly.l7 hb, Nat.le_trans h.sz hb.size⟩
end
theorem results_1c {fn : Func} {tmps : Array Value} {w : World} {p g ty : Nat} {v : Value} (hr : fn.results = #[.cell p ty]) (h2 : tmps.getD p undef = .pointer (some ⟨g, 0, none⟩)) (hl : (Instr.loadAt ty (.pointer (some ⟨g, 0, none⟩))).run Tryz.prog w = .ok v w) : (results fn tmps).run Tryz.prog w = .ok v w := by
  unfold results
  rw [hr]
  have h2' : tmps[p]?.getD undef = .pointer (some ⟨g, 0, none⟩) := by simpa using h2
  have hl' := hl
  simp only [Instr.loadAt, Instr.sureAddr, Sem.run_bind, Sem.run_pure, Result.andThen_ok] at hl'
  simp [h2', asAddr, hl', Result.andThen]
/-- What region 4 keeps. -/
structure K4 (w : World) (g : Nat) (a : Option Addr) (c : Nat) (L : List Int) (N : Nat) (g4 g6 g7 : Nat) (ra : Option Addr) (rc : Nat) (A : List Ac) (co : Int) (B7 : Nat) (x : Txd) (W : World) (y : Ac) (b4 b7 b8 : Bool) (x9 : Value) (V : World) : Prop where
  o8 : b8 = true → b7 = true
  ws : W.heap.size ≤ V.heap.size
  st : St w g a c L (N + b4.toNat) g4 g6 g7 ra rc A co B7 x none 0 V
  f9 : b7 = true → b8 = false → ∃ q, x9 = .pointer (some ⟨q, 0, none⟩) ∧ W.heap.size ≤ q ∧ Bx V q (acA zAc) 49
  d9 : b8 = true → ∃ q, x9 = .pointer (some ⟨q, 0, none⟩) ∧ W.heap.size ≤ q ∧ Bx V q (acA y) 49
section
variable {w : World} {g : Nat} {a : Option Addr} {c : Nat} {L : List Int} {N g4 g6 g7 : Nat} {ra : Option Addr} {rc : Nat} {A : List Ac} {co : Int} {B7 : Nat} {x : Txd} {W : World} {y : Ac} {b4 b7 b8 : Bool} {x9 : Value} {V : World}
theorem K4.s4 (h : K4 w g a c L N g4 g6 g7 ra rc A co B7 x W y false b7 b8 x9 V) (ly : Ly w g a L g4 g6 g7 ra A B7) (hg : g < W.heap.size) {V2 : World} (hns : NSn V2 g a c L (N + 1)) (hb : But g V V2) : K4 w g a c L N g4 g6 g7 ra rc A co B7 x W y true b7 b8 x9 V2 :=
  ⟨h.o8, Nat.le_trans h.ws hb.1.size, h.st.call ly hns hb,
   fun e1 e2 => by obtain ⟨q, h1, h2, h3⟩ := h.f9 e1 e2; exact ⟨q, h1, h2, h3.but hb (by omega)⟩,
   fun e1 => by obtain ⟨q, h1, h2, h3⟩ := h.d9 e1; exact ⟨q, h1, h2, h3.but hb (by omega)⟩⟩
theorem K4.s7 (h : K4 w g a c L N g4 g6 g7 ra rc A co B7 x W y b4 false b8 x9 V) : K4 w g a c L N g4 g6 g7 ra rc A co B7 x W y b4 true b8 (.pointer (some ⟨V.heap.size, 0, none⟩)) (V.alloc (.cells (acA zAc) 49)) := by
  have h8 := ff h.o8 rfl
  subst h8
  have hb : Below V.heap.size V (V.alloc (.cells (acA zAc) 49)) := (Below.refl _ V).alloc (Nat.le_refl _) _
  exact ⟨(fun e => nomatch e), Nat.le_trans h.ws hb.size, h.st.below hb, fun _ _ => ⟨_, rfl, h.ws, heap_alloc_last V _⟩, (fun e => nomatch e)⟩
theorem K4.s8 (h : K4 w g a c L N g4 g6 g7 ra rc A co B7 x W y b4 true false x9 V) (ly : Ly w g a L g4 g6 g7 ra A B7) (hw : w.heap.size ≤ W.heap.size) (hB : B7 ≤ W.heap.size) : ∃ q V2, x9 = .pointer (some ⟨q, 0, none⟩) ∧ (Instr.storeAt 49 (.pointer (some ⟨q, 0, none⟩)) (.agg (acA y))).run Tryz.prog V = .ok () V2 ∧ K4 w g a c L N g4 g6 g7 ra rc A co B7 x W y b4 true true (.pointer (some ⟨q, 0, none⟩)) V2 := by
  obtain ⟨q, rfl, hq, hx⟩ := h.f9 rfl rfl
  obtain ⟨hst, hZ⟩ := store_ac (y := y) hx
  have hbt : But q V (V.setRow q (acA y)) := But.setRow V _
  have l4 := ly.l4
  have l6 := ly.l6
  have l7 := ly.l7
  have lg := ly.hg
  refine ⟨q, _, rfl, hst, fun _ => rfl, Nat.le_trans h.ws hbt.1.size, ?_, (fun _ e => nomatch e), fun _ => ⟨q, rfl, hq, hZ⟩⟩
  have s := h.st
  have hrt : RowT (V.setRow q (acA y)) B7 (.slice none x.tr.length 0) x.tr := by
    have e := s.rt
    unfold RowT at *
    refine ⟨e.1, ?_⟩
    rcases e.2 with h0 | ⟨gg, cap, cur, ev, -⟩
    · exact .inl h0
    · simp only [Value.slice.injEq] at ev
      cases ev.1
  exact ⟨but_at s.bt hbt (Nat.le_trans hw hq) (by omega), s.ns.but hbt (by omega) (fun hl z hz => by have := ly.ab hl z hz; omega), cs_same s.row hbt.1.size (fun hn z hz => hbt.2 _ (Nat.lt_of_lt_of_le (ly.rb hn z hz).1 s.bt.1.size) (by have := (ly.rb hn z hz).1; omega)), s.b4.but hbt (by omega), s.b6.but hbt (by omega), s.b7.but hbt (by omega), hrt, Nat.le_trans s.sz hbt.1.size⟩
end
/-- What region 5 keeps. -/
def K5 (w : World) (g : Nat) (a : Option Addr) (c : Nat) (L : List Int) (N : Nat) (g4 g6 g7 : Nat) (ra : Option Addr) (rc : Nat) (A : List Ac) (co : Int) (B7 : Nat) (x : Txd) (y : Ac) (q : Nat) (b5 b7 : Bool) (V : World) : Prop :=
  St w g a c L N g4 g6 g7 ra rc A co B7 ⟨cond b5 y.1 x.snd, cond b7 y.2.2 x.sq, x.gas, x.fee, x.memo, x.tr⟩ none 0 V ∧ Bx V q (acA y) 49
/-- What regions 7 and 8 keep. -/
def K7 (w : World) (g : Nat) (a : Option Addr) (c : Nat) (L : List Int) (N : Nat) (g4 g6 g7 : Nat) (ra : Option Addr) (rc : Nat) (A : List Ac) (co : Int) (B7 : Nat) (x : Txd) (sq fee : Int) (b3 b7 : Bool) (V : World) : Prop :=
  St w g a c L (N + b3.toNat) g4 g6 g7 ra rc A co B7 ⟨x.snd, cond b7 sq x.sq, x.gas, cond b7 fee x.fee, x.memo, x.tr⟩ none 0 V
def TxMO (w : World) (g : Nat) (a : Option Addr) (c : Nat) (L : List Int) (k : Nat) (e : Ending) (w' : World) : Prop := ∃ x a2 c2, e = .returned (.agg (txA x a2 c2)) ∧ RowT w' w.heap.size (.slice a2 x.tr.length c2) x.tr ∧ GQ x ∧ 1 ≤ x.tr.length ∧ x.tr.length ≤ 3 ∧ NS w' g a c L (k + 40) ∧ But g w w'
end Go.Proofs.YtglglhcnofbagaaGreat
