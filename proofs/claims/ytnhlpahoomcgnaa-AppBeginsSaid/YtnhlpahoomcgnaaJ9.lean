/-
  Texts MA MT MU NC NM joined.
-/
import Derived.Test.YtnhlpahoomcgnaaJ8
import Derived.Test.YtnhlpahoomcgnaaJ1
import Derived.Deep.DeepCutAuto
import Derived.Lib.ConvBytes
import Derived.Lib.Bytealg
import Derived.Laws.Externs
import Derived.Laws.Bits64b
import Derived.Laws.MathBits
import Derived.RowKit3
set_option maxRecDepth 100000
set_option maxHeartbeats 8000000
set_option linter.unusedSimpArgs false
set_option linter.unusedVariables false
namespace Go.Proofs.Ytnhlpahoomcgnaa
attribute [local irreducible] wpList wpQuiet
open Go.RowKit
abbrev Ac := ByteArray × Int × Int
def acl (x : Ac) : List Value := [.string x.1, Z7 x.2.1, Z7 x.2.2]
abbrev ZA (x : Ac) : Array Value := #[.string x.1, Z7 x.2.1, Z7 x.2.2]
def acc (A : List Ac) : List Value := A.flatMap acl
def Xg : Ac := (Vr, 0, 0)
def mM (x : Ac) : Prop := dh x.1 ∧ W64 x.2.1 ∧ W64 x.2.2
theorem VH : (Try.prog.info? 49).map (fun i => (i.zero, i.size, i.bytes)) = some (some (.agg #[.string ByteArray.empty, Z7 0, Z7 0]), 3, 32) := by kernel_rfl
theorem Yd : ∀ A : List Ac, (acc A).length = A.length * 3
  | [] => rfl
  | x :: r => by
    have := Yd r
    show (acl x ++ acc r).length = _
    rw [List.length_append, this, List.length_cons]
    show 3 + _ = _
    omega
def aca (A : List Ac) (j : Nat) : Ac := A.getD j (Vr, 0, 0)
theorem UM {A : List Ac} {j : Nat} (h : j < A.length) : aca A j ∈ A := by
  have : aca A j = A[j] := getD_lt A j _ h
  rw [this]; exact List.getElem_mem h
theorem Jz : ∀ (A : List Ac) (k : Nat), k < A.length → (acc A)[k * 3]? = some (.string (aca A k).1) ∧ (acc A)[k * 3 + 1]? = some (Z7 (aca A k).2.1) ∧ (acc A)[k * 3 + 2]? = some (Z7 (aca A k).2.2)
  | [], k, h => absurd h (by simp)
  | x :: r, 0, h => ⟨rfl, rfl, rfl⟩
  | x :: r, k + 1, h => by
    have := Jz r k (by simpa using h)
    have e : ∀ q, (acc (x :: r))[q + 3]? = (acc r)[q]? := fun q => rfl
    rw [show (k + 1) * 3 = k * 3 + 3 by omega, show k * 3 + 3 + 1 = (k * 3 + 1) + 3 by omega, show k * 3 + 3 + 2 = (k * 3 + 2) + 3 by omega, e, e, e]
    exact this
theorem YS {w : World} {a : Option Addr} {A : List Ac} (h : Cs w a (acc A)) {k : Nat} (hk : k < A.length) : ∃ b off, a = some ⟨b, off, none⟩ ∧ b < w.heap.size ∧ w.rangeAt b (off + k * 3) (acl (aca A k)) := by
  obtain ⟨h0, h1, h2⟩ := Jz A k hk
  obtain ⟨b, off, rfl, hb, c0⟩ := h _ _ h0
  obtain ⟨b1, o1, e1, -, c1⟩ := h _ _ h1
  obtain ⟨b2, o2, e2, -, c2⟩ := h _ _ h2
  simp only [Option.some.injEq, Addr.mk.injEq, and_true] at e1 e2
  obtain ⟨rfl, rfl⟩ := e1
  obtain ⟨rfl, rfl⟩ := e2
  refine ⟨b, off, rfl, hb, fun j v hj => ?_⟩
  have hj2 : j < 3 := by
    have := (List.getElem?_eq_some_iff.1 hj).1
    simpa [acl] using this
  rcases (show j = 0 ∨ j = 1 ∨ j = 2 by omega) with rfl | rfl | rfl
  · simp [acl] at hj; rw [← hj]; exact c0
  · simp [acl] at hj; rw [← hj, Nat.add_assoc]; exact c1
  · simp [acl] at hj; rw [← hj, Nat.add_assoc]; exact c2
theorem Ym {w : World} {b o : Nat} {x : Ac} (h : w.rangeAt b o (acl x)) : (Instr.loadAt 49 (Z5 b o)).run Try.prog w = .ok (.agg (ZA x)) w :=
  run_loadAt_mid w b o 49 (acl x) _ h Try.underlying49 rfl (by kernel_rfl)
theorem Zn {w : World} {g k : Nat} {x : Ac} (h : Bx w g (ZA x) k) : (Instr.loadAt 49 (Z5 g 0)).run Try.prog w = .ok (.agg (ZA x)) w :=
  Ym fun j v hv => by
    rw [cell_of_row w g _ _ _ (0, 0) h]
    simpa [acl] using hv
theorem XV {w : World} {g : Nat} {x y : Ac} (h : Bx w g (ZA x) 49) : (Instr.storeAt 49 (Z5 g 0) (.agg (ZA y))).run Try.prog w = .ok () (w.setRow g (ZA y)) ∧ Bx (w.setRow g (ZA y)) g (ZA y) 49 :=
  ⟨YW h rfl (by simp [Value.oneCell']) (by kernel_rfl), h.set⟩
theorem YR (b off n c k : Nat) (hk : k < n) (V : World) (ρ : Operand → Value) (o : Oper) {x y : Operand} (ho : o.op = .indexAddr 22 x y) (hx : ρ x = .slice (some ⟨b, off, none⟩) n c) (hy : ρ y = Z8 k) : (execOp ρ o).run Try.prog V = .ok (.value (Z5 b (off + k * 3))) V := by
  have hs : (sizeOf (Try.prog.elem 22)).run Try.prog V = .ok 3 V := by kernel_rfl
  have hlm : (k : Int) < (n : Int) := by omega
  unfold execOp
  simp only [ho, hx, hy]
  go_simp
theorem Wp (x : Ac) (V : World) : (Instr.buildSlice 22 1 #[(0, .agg (ZA x))]).run Try.prog V = .ok (.slice (some ⟨V.heap.size, 0, none⟩) 1 1) (V.alloc (.cells (ZA x) 49)) := by
  obtain ⟨i0, hi, hz0, hz1, hz2⟩ := info_parts VH
  refine run_buildSlice V 22 49 1 _ (ZA x) i0 _ Try.underlying22 hi hz0 (by rw [hz1]; omega) (by rw [hz1]; omega) ?_
  rw [hz1]
  kernel_rfl
def ZB (w : World) (B : Nat) (v : Value) (A : List Ac) : Prop := w.ownsRow B 49 3 v A.length (acc A)
theorem ZB.cs {w : World} {B : Nat} {v : Value} {A : List Ac} (h : ZB w B v A) : ∃ a c, v = .slice a A.length c ∧ Cs w a (acc A) ∧ A.length ≤ c := Yj h
theorem Ie {w : World} {B : Nat} {v : Value} {A : List Ac} (h : ZB w B v A) (hB : B ≤ w.heap.size) (x : Ac) (hl : A.length ≤ 100000) :
    ∃ a c V2, (Builtin.append_ #[22, 22] 22 #[v, .slice (some ⟨w.heap.size, 0, none⟩) 1 1]).run Try.prog (w.alloc (.cells (ZA x) 49)) = .ok (.slice a (A ++ [x]).length c) V2 ∧ ZB V2 B (.slice a (A ++ [x]).length c) (A ++ [x]) ∧ Below B w V2 := by
  have hb : Below w.heap.size w (w.alloc (.cells (ZA x) 49)) := (Below.refl _ w).alloc (Nat.le_refl _) _
  have hO := own_below h hb
  have hc : Cs (w.alloc (.cells (ZA x) 49)) (some ⟨w.heap.size, 0, none⟩) (acl x) := Cs.block (t := 49) (fr := (0, 0)) (heap_alloc_last w _)
  obtain ⟨v2, V2, hr, hO2, hb2, -⟩ := Si (P := Try.prog) (t := 22) (m := 1) Try.underlying22 VH (by kernel_rfl) (by omega) (by omega) hO (some ⟨w.heap.size, 0, none⟩) 1 (acl x) hc rfl (fun u hu => by
    simp only [acl, List.mem_cons, List.not_mem_nil, or_false] at hu
    rcases hu with rfl | rfl | rfl <;> rfl) (by simp; omega) hl (by omega)
  have e : acc (A ++ [x]) = acc A ++ acl x := by unfold acc; rw [List.flatMap_append]; simp
  have hO3 : ZB V2 B v2 (A ++ [x]) := by unfold ZB; rw [e, List.length_append]; exact hO2
  obtain ⟨a, c, rfl, -, -⟩ := hO3.cs
  exact ⟨a, c, V2, hr, hO3, (hb.mono hB).trans hb2⟩
def WU (S : List Int) : List Value := S.map (Value.int .u64)
theorem Io : (Try.prog.info? 23).map (fun i => (i.zero, i.size, i.bytes)) = some (some (Z7 0), 1, 8) := by kernel_rfl
theorem LD {w : World} {g t : Nat} {S : List Int} (h : Bx w g (WU S).toArray t) {k : Nat} (hk : k < S.length) : (Instr.loadAt 23 (Z5 g (0 + k))).run Try.prog w = .ok (Z7 (S.getD k 0)) w := by
  rw [Nat.zero_add]
  refine Bx.load h (i := k) ?_ (by kernel_rfl)
  rw [List.getElem?_toArray]
  unfold WU
  rw [List.getElem?_map, List.getElem?_eq_getElem hk, List.getD_eq_getElem?_getD, List.getElem?_eq_getElem hk]
  rfl
theorem Ic (b off n c k : Nat) (hk : k < n) (V : World) (ρ : Operand → Value) (o : Oper) {x y : Operand} (ho : o.op = .indexAddr 67 x y) (hx : ρ x = .slice (some ⟨b, off, none⟩) n c) (hy : ρ y = Z8 k) : (execOp ρ o).run Try.prog V = .ok (.value (Z5 b (off + k))) V := by
  have hs : (sizeOf (Try.prog.elem 67)).run Try.prog V = .ok 1 V := by kernel_rfl
  have hlm : (k : Int) < (n : Int) := by omega
  unfold execOp
  simp only [ho, hx, hy]
  go_simp
def NU : List Int := [100000, 5000, 700, 0, 1099511627776]
def RY : List Int := [5, 18446744073709551615, 18446744073709551614]
theorem jH (k : Nat) : W64 (NU.getD k 0) := by
  match k with
  | 0 | 1 | 2 | 3 | 4 => exact ⟨by decide, by decide⟩
  | k + 5 => exact ⟨by simp [NU], by simp [NU]⟩
theorem jG (k : Nat) : W64 (RY.getD k 0) := by
  match k with
  | 0 | 1 | 2 => exact ⟨by decide, by decide⟩
  | k + 3 => exact ⟨by simp [RY], by simp [RY]⟩
def nm4 : List ByteArray := [⟨#[97, 110, 110]⟩, ⟨#[98, 111, 98]⟩, ⟨#[101, 118, 101]⟩, ⟨#[122, 111, 101]⟩]
theorem qF (k : Nat) (h : k < 4) : dh (nm4.getD k Vr) := by
  rcases (show k = 0 ∨ k = 1 ∨ k = 2 ∨ k = 3 by omega) with rfl | rfl | rfl | rfl <;> exact ⟨by decide +kernel, by decide⟩
theorem Gf (V : World) : (Instr.buildSlice 66 4 #[(0, .string ⟨#[97, 110, 110]⟩), (1, .string ⟨#[98, 111, 98]⟩), (2, .string ⟨#[101, 118, 101]⟩), (3, .string ⟨#[122, 111, 101]⟩)]).run Try.prog V = .ok (.slice (some ⟨V.heap.size, 0, none⟩) 4 4) (V.alloc (.cells (strs nm4).toArray 9)) := by
  obtain ⟨i0, hi, hz0, hz1, hz2⟩ := info_parts infoSt
  refine run_buildSlice V 66 9 4 _ (strs nm4).toArray i0 _ Try.underlying66 hi hz0 (by rw [hz1]; omega) (by rw [hz1]; omega) ?_
  rw [hz1]
  kernel_rfl
theorem F9 (V : World) : (Instr.buildSlice 67 5 #[(0, Z7 100000), (1, Z7 5000), (2, Z7 700), (3, Z7 0), (4, Z7 1099511627776)]).run Try.prog V = .ok (.slice (some ⟨V.heap.size, 0, none⟩) 5 5) (V.alloc (.cells (WU NU).toArray 23)) := by
  obtain ⟨i0, hi, hz0, hz1, hz2⟩ := info_parts Io
  refine run_buildSlice V 67 23 5 _ (WU NU).toArray i0 _ Try.underlying67 hi hz0 (by rw [hz1]; omega) (by rw [hz1]; omega) ?_
  rw [hz1]
  kernel_rfl
theorem F8 (V : World) : (Instr.buildSlice 67 3 #[(0, Z7 5), (1, Z7 18446744073709551615), (2, Z7 18446744073709551614)]).run Try.prog V = .ok (.slice (some ⟨V.heap.size, 0, none⟩) 3 3) (V.alloc (.cells (WU RY).toArray 23)) := by
  obtain ⟨i0, hi, hz0, hz1, hz2⟩ := info_parts Io
  refine run_buildSlice V 67 23 3 _ (WU RY).toArray i0 _ Try.underlying67 hi hz0 (by rw [hz1]; omega) (by rw [hz1]; omega) ?_
  rw [hz1]
  kernel_rfl
theorem NS.ab {w : World} {g c k : Nat} {a : Option Addr} {L : List Int} (h : NS w g a c L k) (hL : L ≠ []) (x : Addr) (hx : a = some x) : x.block < w.heap.size := by
  obtain ⟨N, -, -, h3, -⟩ := h
  obtain ⟨b, off, e, hb, -⟩ := DT h3 (k := 0) (List.length_pos_iff.2 hL)
  rw [hx] at e
  cases e
  exact hb
theorem NS.qE {w w' W : World} {g q c k : Nat} {a : Option Addr} {L : List Int} (h : NS w g a c L k) (hb : But q w w') (hq : W.heap.size ≤ q) (hg : g < W.heap.size) (ha : L ≠ [] → ∀ x, a = some x → x.block < W.heap.size) : NS w' g a c L k :=
  h.but hb (by omega) (fun h1 x hx => Nat.lt_of_lt_of_le (ha h1 x hx) hq)
structure KC (W : World) (g : Nat) (a : Option Addr) (c : Nat) (L : List Int) (k i : Nat) (b0 b2 b4 b6 b7 b8 b9 b10 b11 : Bool) (x12 x14 x16 x18 x19 x20 x21 x5 : Value) (V : World) : Prop where
  o11 : b11 = true → b10 = true
  o12 : b11 = true → b9 = true
  bt : But g W V
  ns : NS V g a c L (k + 1)
  n0 : b6 = false → NS V g a c L k
  f12 : b0 = true → ∃ q, x12 = .slice (some ⟨q, 0, none⟩) 4 4 ∧ W.heap.size ≤ q ∧ Bx V q (strs nm4).toArray 9
  f14 : b2 = true → ∃ q, x14 = Z5 q (0 + i) ∧ W.heap.size ≤ q ∧ Bx V q (strs nm4).toArray 9
  f16 : b4 = true → ∃ q, x16 = .slice (some ⟨q, 0, none⟩) 5 5 ∧ W.heap.size ≤ q ∧ Bx V q (WU NU).toArray 23
  f18 : b6 = true → ∃ v : Nat, v < 5 ∧ x18 = Z8 v
  f19 : b7 = true → ∃ q v, v < 5 ∧ x19 = Z5 q (0 + v) ∧ W.heap.size ≤ q ∧ Bx V q (WU NU).toArray 23
  f20 : b8 = true → ∃ m, W64 m ∧ x20 = Z7 m
  f21 : b9 = true → ∃ m, W64 m ∧ x21 = .agg (ZA (nm4.getD i Vr, m, 0))
  f5 : b10 = true → b11 = false → ∃ q, x5 = Z5 q 0 ∧ W.heap.size ≤ q ∧ Bx V q (ZA Xg) 49
  d5 : b11 = true → ∃ q m, W64 m ∧ x5 = Z5 q 0 ∧ W.heap.size ≤ q ∧ Bx V q (ZA (nm4.getD i Vr, m, 0)) 49
section
variable {W : World} {g c k i : Nat} {a : Option Addr} {L : List Int} {b0 b2 b4 b6 b7 b8 b9 b10 b11 : Bool} {x12 x14 x16 x18 x19 x20 x21 x5 : Value} {V : World}
theorem KC.to (h : KC W g a c L k i b0 b2 b4 b6 b7 b8 b9 b10 b11 x12 x14 x16 x18 x19 x20 x21 x5 V) {V2 : World} (hbt : But g V V2) (hns : NS V2 g a c L (k + 1)) (hn0 : b6 = false → NS V2 g a c L k) (hg : g < W.heap.size) : KC W g a c L k i b0 b2 b4 b6 b7 b8 b9 b10 b11 x12 x14 x16 x18 x19 x20 x21 x5 V2 :=
  ⟨h.o11, h.o12, h.bt.trans hbt, hns, hn0,
   fun e => by obtain ⟨q, h1, h2, h3⟩ := h.f12 e; exact ⟨q, h1, h2, h3.but hbt (by omega)⟩,
   fun e => by obtain ⟨q, h1, h2, h3⟩ := h.f14 e; exact ⟨q, h1, h2, h3.but hbt (by omega)⟩,
   fun e => by obtain ⟨q, h1, h2, h3⟩ := h.f16 e; exact ⟨q, h1, h2, h3.but hbt (by omega)⟩,
   h.f18,
   fun e => by obtain ⟨q, v, h0, h1, h2, h3⟩ := h.f19 e; exact ⟨q, v, h0, h1, h2, h3.but hbt (by omega)⟩,
   h.f20, h.f21,
   fun e e2 => by obtain ⟨q, h1, h2, h3⟩ := h.f5 e e2; exact ⟨q, h1, h2, h3.but hbt (by omega)⟩,
   fun e => by obtain ⟨q, m, h0, h1, h2, h3⟩ := h.d5 e; exact ⟨q, m, h0, h1, h2, h3.but hbt (by omega)⟩⟩
theorem KC.al (h : KC W g a c L k i b0 b2 b4 b6 b7 b8 b9 b10 b11 x12 x14 x16 x18 x19 x20 x21 x5 V) (hg : g < W.heap.size) (o : Obj) : KC W g a c L k i b0 b2 b4 b6 b7 b8 b9 b10 b11 x12 x14 x16 x18 x19 x20 x21 x5 (V.alloc o) := by
  have hb : Below V.heap.size V (V.alloc o) := (Below.refl _ V).alloc (Nat.le_refl _) _
  exact h.to (But.of_below hb (Nat.le_of_lt h.ns.lt)) (h.ns.below hb) (fun e => (h.n0 e).below hb) hg
theorem KC.s6 (h : KC W g a c L k i b0 b2 b4 false b7 b8 b9 b10 b11 x12 x14 x16 x18 x19 x20 x21 x5 V) {V2 : World} {v : Nat} (hv : (v : Int) < 5) (hns : NS V2 g a c L (k + 1)) (hbt : But g V V2) (hg : g < W.heap.size) : KC W g a c L k i b0 b2 b4 true b7 b8 b9 b10 b11 x12 x14 x16 (Z8 v) x19 x20 x21 x5 V2 := by
  exact ⟨h.o11, h.o12, h.bt.trans hbt, hns, (fun e => nomatch e),
   fun e => by obtain ⟨q, h1, h2, h3⟩ := h.f12 e; exact ⟨q, h1, h2, h3.but hbt (by omega)⟩,
   fun e => by obtain ⟨q, h1, h2, h3⟩ := h.f14 e; exact ⟨q, h1, h2, h3.but hbt (by omega)⟩,
   fun e => by obtain ⟨q, h1, h2, h3⟩ := h.f16 e; exact ⟨q, h1, h2, h3.but hbt (by omega)⟩,
   fun _ => ⟨v, by omega, rfl⟩,
   fun e => by obtain ⟨q, v, h0, h1, h2, h3⟩ := h.f19 e; exact ⟨q, v, h0, h1, h2, h3.but hbt (by omega)⟩,
   h.f20, h.f21,
   fun e e2 => by obtain ⟨q, h1, h2, h3⟩ := h.f5 e e2; exact ⟨q, h1, h2, h3.but hbt (by omega)⟩,
   fun e => by obtain ⟨q, m, h0, h1, h2, h3⟩ := h.d5 e; exact ⟨q, m, h0, h1, h2, h3.but hbt (by omega)⟩⟩
end
theorem KC.s11 {W : World} {g c k i : Nat} {a : Option Addr} {L : List Int} {b0 b2 b4 b6 b7 b8 : Bool} {x12 x14 x16 x18 x19 x20 x21 : Value} {V : World} {q : Nat} {m : Int} (h : KC W g a c L k i b0 b2 b4 b6 b7 b8 true true false x12 x14 x16 x18 x19 x20 x21 (Z5 q 0) V) (hq1 : W.heap.size ≤ q) (hq2 : Bx V q (ZA Xg) 49) (hm : W64 m) (hg : g < W.heap.size) (ha : L ≠ [] → ∀ x, a = some x → x.block < W.heap.size) (hZ : Bx (V.setRow q (ZA (nm4.getD i Vr, m, 0))) q (ZA (nm4.getD i Vr, m, 0)) 49) : KC W g a c L k i b0 b2 b4 b6 b7 b8 true true true x12 x14 x16 x18 x19 x20 x21 (Z5 q 0) (V.setRow q (ZA (nm4.getD i Vr, m, 0))) := by
  have hbt : But q V (V.setRow q (ZA (nm4.getD i Vr, m, 0))) := But.setRow V _
  have hne : ∀ {q2 : Nat} {cs : Array Value} {ty : Nat}, Bx V q2 cs ty → ty ≠ 49 → q2 ≠ q := fun hb hty e => by
    subst e
    unfold Bx at hb hq2
    rw [hb] at hq2
    simp only [Option.some.injEq, Obj.cells.injEq] at hq2
    exact hty hq2.2.1
  exact ⟨fun _ => rfl, fun _ => rfl, ⟨ZT h.bt.1 (by omega) _, fun k2 hk hn => (hbt.2 k2 (Nat.lt_of_lt_of_le hk h.bt.1.size) (by omega)).trans (h.bt.2 k2 hk hn)⟩, h.ns.qE hbt hq1 hg ha, fun e => (h.n0 e).qE hbt hq1 hg ha,
   fun e => by obtain ⟨q2, h1, h2, h3⟩ := h.f12 e; exact ⟨q2, h1, h2, h3.but hbt (hne h3 (by decide))⟩,
   fun e => by obtain ⟨q2, h1, h2, h3⟩ := h.f14 e; exact ⟨q2, h1, h2, h3.but hbt (hne h3 (by decide))⟩,
   fun e => by obtain ⟨q2, h1, h2, h3⟩ := h.f16 e; exact ⟨q2, h1, h2, h3.but hbt (hne h3 (by decide))⟩,
   h.f18,
   fun e => by obtain ⟨q2, v, h0, h1, h2, h3⟩ := h.f19 e; exact ⟨q2, v, h0, h1, h2, h3.but hbt (hne h3 (by decide))⟩,
   h.f20, h.f21, (fun _ e => nomatch e), fun _ => ⟨q, m, hm, rfl, hq1, hZ⟩⟩
theorem sub_one {ρ : Operand → Value} {o : Oper} {x : Operand} (ho : o.op = .binOp .sub 3 x (.const (Z8 1)) 3) (m : Nat) (hm : m ≤ 1000000) (hx : ρ x = Z8 m) (w : World) (hρ : ρ (.const (Z8 1)) = Z8 1 := by rfl) : (execOp ρ o).run Try.prog w = .ok (.value (Z8 ((m : Int) - 1))) w := by
  have hw : IntKind.i64.wrap ((m : Int) - 1) = (m : Int) - 1 := by rw [IntKind.wrap_i64]; omega
  unfold execOp
  simp only [ho, hx, hρ]
  go_simp
theorem DR {w w' : World} {g B : Nat} {v : Value} {A : List Ac} (h : ZB w B v A) (hb : But g w w') (hg : g < B) (hs : B ≤ w.heap.size) : ZB w' B v A := Zv h hb hg
theorem But.more2 {g : Nat} {a b c : World} (h : But g a b) (hb : Below a.heap.size b c) (hg : g < a.heap.size) : But g a c := h.more hb (Nat.le_of_lt hg)
theorem Ib {w V V2 : World} {g c k : Nat} {a : Option Addr} {L : List Int} (h : NS V g a c L k) (hb : Below w.heap.size V V2) (hg : g < w.heap.size) (ha : L ≠ [] → ∀ x, a = some x → x.block < w.heap.size) : NS V2 g a c L k := by
  obtain ⟨N, h1, h2, h3, h4⟩ := h
  refine ⟨N, h1, h2.below hg hb, ?_, h4⟩
  cases L with
  | nil => exact Cs.nil _ _
  | cons x r =>
    intro j v hj
    obtain ⟨b, off, rfl, hb2, hc⟩ := h3 j v hj
    have hlt := ha (by simp) _ rfl
    exact ⟨b, off, rfl, Nat.lt_of_lt_of_le hb2 hb.size, (hb.cell (p := ⟨b, off + j, none⟩) hlt).trans hc⟩
theorem qC {W V V2 : World} {g q : Nat} (h : But g W V) (hb : But q V V2) (hq : W.heap.size ≤ q) (hg : g ≤ q := by omega) : But g W V2 := ⟨h.1.trans (hb.1.mono hg), fun k hk hn => (hb.2 k (Nat.lt_of_lt_of_le hk h.1.size) (by omega)).trans (h.2 k hk hn)⟩
theorem Ia {w : World} {B k d : Nat} {p : Option Addr} {A : List Ac} (h : ZB w B (.slice p k d) A) : A.length = k := by
  obtain ⟨a, c, e, -, -⟩ := h.cs
  simp only [Value.slice.injEq] at e
  exact e.2.1.symm
def AcO (w : World) (g : Nat) (a : Option Addr) (c : Nat) (L : List Int) (k : Nat) (e : Ending) (w' : World) : Prop := ∃ ra rc A, e = .returned (.slice ra (List.length A) rc) ∧ ZB w' w.heap.size (.slice ra A.length rc) A ∧ (∀ x, x ∈ A → mM x) ∧ A.length ≤ 4 ∧ NS w' g a c L (k + 13) ∧ But g w w'
theorem MJ {w : World} {g c k : Nat} {a : Option Addr} {L : List Int} (h : NS w g a c L k) (hl : L.length ≤ 100000) (hk : k ≤ 10000) : Calls Try.prog 8 #[Z5 g 0] w (AcO w g a c L k) := by
  have HL := Z9 hl
  have HKK := Z9 hk
  have HG := Z9 h.lt
  have HAB := Z9 (fun h1 x hx => h.ab h1 x hx)
  have CX := Tn h hl (by omega) 4 (by decide) (by decide)
  have HQ4 := Z9 qF
  clear h hl hk
  go_enter Try.func8, Try.ntmps8
  go_upto_region 1 with fail
  refine wl <| ZV (.slice none 0 0) <| wn ?_
  simp only [pu]
  go_upto_region 2 with fail
  refine wl <| ZV (Z5 g 0) <| Yl (fun v w' => ∃ q : Nat, v = Z8 q ∧ (q : Int) < 4 ∧ NS w' g a c L (k + 1) ∧ But g w w') ((CX).mono fun e w' z => by obtain ⟨q, h1, h2⟩ := z; exact ⟨_, h1, q, rfl, h2⟩) (fun vv V1 hq => ?_)
  obtain ⟨v1, rfl, hv1, jF, uf⟩ := hq
  simp only [pu]
  refine ZV (Z8 v1) <| wn ?_
  simp only [pu]
  have HN1 := Z9 jF
  have HB1 := Z9 uf
  clear jF uf CX
  have ae3 : v1 < 4 := by omega
  go_wp2_with fail
  go_loopg [3, 4] (v1 + 1) (fun gg s3 s4 wx => ∃ (z : Int) (p3 : Option Addr) (k3 d3 : Nat) (A : List Ac), s3 = .slice p3 k3 d3 ∧ s4 = Z8 z ∧ -1 ≤ z ∧ z ≤ 3 ∧ (A.length : Int) + z ≤ 3 ∧ Hid (ZB wx w.heap.size (.slice p3 k3 d3) A) ∧ Hid (∀ x, x ∈ A → mM x) ∧ Hid (NS wx g a c L (k + 1 + 3 * A.length)) ∧ Hid (But g w wx) ∧ ((gg : Nat) : Int) = z + 1)
  case atStart => exact ⟨v1, none, 0, 0, [], rfl, rfl, by omega, by omega, by simp only [List.length_nil]; omega, Z9 (World.ownsRow_nil _ _ _ _), Z9 (fun x hx => by cases hx), HN1, HB1, by omega⟩
  case round =>
    obtain ⟨z, p3, k3, d3, A, rfl, rfl, hz1, hz2, hal, HR, HQ, HN, HB, hg⟩ := hrel
    clear HN1 HB1
    by_cases hlt : 0 ≤ z
    · skip
      obtain ⟨i, rfl⟩ : ∃ i : Nat, z = i := ⟨z.toNat, by omega⟩
      have hi4 : i < 4 := by omega
      have HG2 : Hid (gk = i + 1 ∧ i + A.length ≤ 3) := Z9 ⟨by omega, by omega⟩
      obtain ⟨kk, hkk⟩ := ZR (k + 1 + 3 * A.length)
      have PK : Hid (kk = k + 1 + 3 * A.length ∧ kk ≤ 20000) := Z9 ⟨hkk.symm, by have := HKK.out; omega⟩
      rw [hkk] at HN
      have QX : Hid (g < wr.heap.size) := Z9 HN.out.lt
      have H9 : Hid (w.heap.size ≤ wr.heap.size) := Z9 HB.out.1.size
      have jE := Z9 (fun h1 x hx => HN.out.ab h1 x hx)
      have CX5 : ∀ V, NS V g a c L kk → Calls Try.prog 21 #[Z5 g 0, Z8 5] V (NxO V g a c L kk 5) := fun V hV => Tn hV HL.out (by have := PK.out.2; omega) 5 (by decide) (by decide)
      have h0 : KC wr g a c L kk i false false false false false false false false false u12 u14 u16 u18 u19 u20 u21 u5 wr.drew := ⟨(fun h => nomatch h), (fun h => nomatch h), ⟨(Below.refl _ _).drew, fun _ _ _ => rfl⟩, (NS.mono (w := wr.drew) HN.out (Nat.le_succ _)), fun _ => HN.out, (fun h => nomatch h), (fun h => nomatch h), (fun h => nomatch h), (fun h => nomatch h), (fun h => nomatch h), (fun h => nomatch h), (fun h => nomatch h), (fun h => nomatch h), (fun h => nomatch h)⟩
      clear hkk hz1 hz2 hal hg HN
      go_upto_region 3 with fail
      refine wl <| ZV (Z8 i) <| ZM (Uj rfl (i) (0) dT) <| wn ?_
      simp only [pu]
      go_upto_region 5 with fail
      refine Y5 (fun listed Zr V => ∃ b0 b1 b2 b3 b4 b5 b6 b7 b8 b9 b10 b11 : Bool, ∃ x12 x14 x16 x18 x19 x20 x21 x5 : Value, listed = #[b0, b1, b2, b3, b4, b5, b6, b7, b8, b9, b10, b11] ∧ Zr = { tmps := #[Z5 g 0, undef, .slice none 0 0, .slice p3 k3 d3, Z8 i, x5, Z5 g 0, Z8 v1, Z8 i, Z4, u10, u11, x12, (cond b1 (Z8 i) (u13)), x14, (cond b3 (.string (nm4.getD i Vr)) (u15)), x16, (cond b5 (Z5 g 0) (u17)), x18, x19, x20, x21, u22, u23, u24, u25, u26, u27, u28, u29, u30, u31, u32, u33, u34, undef], defers := [] } ∧ KC wr g a c L kk i b0 b2 b4 b6 b7 b8 b9 b10 b11 x12 x14 x16 x18 x19 x20 x21 x5 V) (by kernel_rfl) (by kernel_rfl) ?_ ?_ ?_
      · exact ⟨_, _, _, _, _, _, _, _, _, _, _, _, _, _, _, _, _, _, _, _, rfl, rfl, h0⟩
      · intro i9 listed Zr V hi9 hr hJ
        obtain ⟨b0, b1, b2, b3, b4, b5, b6, b7, b8, b9, b10, b11, x12, x14, x16, x18, x19, x20, x21, x5, rfl, rfl, hF⟩ := hJ
        have hi2 : i9 < 12 := hi9
        have hi3 : i9 = 0 ∨ i9 = 1 ∨ i9 = 2 ∨ i9 = 3 ∨ i9 = 4 ∨ i9 = 5 ∨ i9 = 6 ∨ i9 = 7 ∨ i9 = 8 ∨ i9 = 9 ∨ i9 = 10 ∨ i9 = 11 := by omega
        rcases hi3 with rfl | rfl | rfl | rfl | rfl | rfl | rfl | rfl | rfl | rfl | rfl | rfl
        · obtain rfl : b0 = false := ZX hr
          refine Xw rfl (by kernel_rfl) (some 12) rfl 66 4 #[(0, .const (.string ⟨#[97, 110, 110]⟩)), (1, .const (.string ⟨#[98, 111, 98]⟩)), (2, .const (.string ⟨#[101, 118, 101]⟩)), (3, .const (.string ⟨#[122, 111, 101]⟩))] rfl #[(0, .string ⟨#[97, 110, 110]⟩), (1, .string ⟨#[98, 111, 98]⟩), (2, .string ⟨#[101, 118, 101]⟩), (3, .string ⟨#[122, 111, 101]⟩)] (by kernel_rfl) (.slice (some ⟨V.heap.size, 0, none⟩) 4 4) _ (Gf V) ?_
          have hF2 := hF.al QX.out (.cells (strs nm4).toArray 9)
          exact ⟨_, _, _, _, _, _, _, _, _, _, _, _, _, _, _, _, _, _, _, _, rfl, rfl, { hF2 with f12 := fun _ => ⟨_, rfl, hF.bt.1.size, heap_alloc_last V _⟩ }⟩
        · obtain rfl : b1 = false := ZX hr
          refine ZO rfl (by kernel_rfl) (some 13) rfl (Z8 i) V (by kernel_rfl) ?_
          exact ⟨_, _, _, _, _, _, _, _, _, _, _, _, _, _, _, _, _, _, _, _, rfl, rfl, hF⟩
        · obtain rfl : b2 = false := ZX hr
          obtain rfl : b0 = true := ZW hr 0
          obtain rfl : b1 = true := ZW hr 1
          obtain ⟨q, rfl, hq1, hq2⟩ := hF.f12 rfl
          refine ZO rfl (by kernel_rfl) (some 14) rfl (Z5 q (0 + i)) V (yC q 0 4 4 i hi4 _ _ _ rfl (by kernel_rfl) (by kernel_rfl)) ?_
          exact ⟨_, _, _, _, _, _, _, _, _, _, _, _, _, _, _, _, _, _, _, _, rfl, rfl, { hF with f14 := fun _ => ⟨q, rfl, hq1, hq2⟩ }⟩
        · obtain rfl : b3 = false := ZX hr
          obtain rfl : b2 = true := ZW hr 2
          obtain ⟨q, rfl, hq1, hq2⟩ := hF.f14 rfl
          refine Y7 rfl (by kernel_rfl) (some 15) rfl 9 (.tmp 14) rfl ⟨q, 0 + i, none⟩ (.string (nm4.getD i Vr)) (by kernel_rfl) (DN hq2 (k := i) hi4) ?_
          exact ⟨_, _, _, _, _, _, _, _, _, _, _, _, _, _, _, _, _, _, _, _, rfl, rfl, hF⟩
        · obtain rfl : b4 = false := ZX hr
          refine Xw rfl (by kernel_rfl) (some 16) rfl 67 5 #[(0, .const (Z7 100000)), (1, .const (Z7 5000)), (2, .const (Z7 700)), (3, .const (Z7 0)), (4, .const (Z7 1099511627776))] rfl #[(0, Z7 100000), (1, Z7 5000), (2, Z7 700), (3, Z7 0), (4, Z7 1099511627776)] (by kernel_rfl) (.slice (some ⟨V.heap.size, 0, none⟩) 5 5) _ (F9 V) ?_
          have hF2 := hF.al QX.out (.cells (WU NU).toArray 23)
          exact ⟨_, _, _, _, _, _, _, _, _, _, _, _, _, _, _, _, _, _, _, _, rfl, rfl, { hF2 with f16 := fun _ => ⟨_, rfl, hF.bt.1.size, heap_alloc_last V _⟩ }⟩
        · obtain rfl : b5 = false := ZX hr
          refine ZO rfl (by kernel_rfl) (some 17) rfl (Z5 g 0) V (by kernel_rfl) ?_
          exact ⟨_, _, _, _, _, _, _, _, _, _, _, _, _, _, _, _, _, _, _, _, rfl, rfl, hF⟩
        · obtain rfl : b6 = false := ZX hr
          obtain rfl : b5 = true := ZW hr 5
          refine XD rfl (by kernel_rfl) (some 18) rfl 21 #[Z5 g 0, Z8 5] (by kernel_rfl) ((CX5 V (hF.n0 rfl)).mono ?_)
          rintro e V2 ⟨v, rfl, hv, hns, hbt⟩
          exact ⟨_, rfl, _, _, _, _, _, _, _, _, _, _, _, _, _, _, _, _, _, _, _, _, rfl, rfl, hF.s6 hv hns hbt QX.out⟩
        · obtain rfl : b7 = false := ZX hr
          obtain rfl : b4 = true := ZW hr 4
          obtain rfl : b6 = true := ZW hr 6
          obtain ⟨q, rfl, hq1, hq2⟩ := hF.f16 rfl
          obtain ⟨v, hv, rfl⟩ := hF.f18 rfl
          refine ZO rfl (by kernel_rfl) (some 19) rfl (Z5 q (0 + v)) V (Ic q 0 5 5 v hv _ _ _ rfl (by kernel_rfl) (by kernel_rfl)) ?_
          exact ⟨_, _, _, _, _, _, _, _, _, _, _, _, _, _, _, _, _, _, _, _, rfl, rfl, { hF with f19 := fun _ => ⟨q, v, hv, rfl, hq1, hq2⟩ }⟩
        · obtain rfl : b8 = false := ZX hr
          obtain rfl : b7 = true := ZW hr 7
          obtain ⟨q, v, hv, rfl, hq1, hq2⟩ := hF.f19 rfl
          refine Y7 rfl (by kernel_rfl) (some 20) rfl 23 (.tmp 19) rfl ⟨q, 0 + v, none⟩ (Z7 (NU.getD v 0)) (by kernel_rfl) (LD hq2 (k := v) hv) ?_
          exact ⟨_, _, _, _, _, _, _, _, _, _, _, _, _, _, _, _, _, _, _, _, rfl, rfl, { hF with f20 := fun _ => ⟨_, jH v, rfl⟩ }⟩
        · obtain rfl : b9 = false := ZX hr
          obtain rfl : b3 = true := ZW hr 3
          obtain rfl : b8 = true := ZW hr 8
          obtain ⟨m, hm, rfl⟩ := hF.f20 rfl
          refine ZO rfl (by kernel_rfl) (some 21) rfl (.agg (ZA ((nm4.getD i Vr), m, 0))) V (by kernel_rfl) ?_
          exact ⟨_, _, _, _, _, _, _, _, _, _, _, _, _, _, _, _, _, _, _, _, rfl, rfl, { hF with o12 := fun _ => rfl, f21 := fun _ => ⟨m, hm, rfl⟩ }⟩
        · obtain rfl : b10 = false := ZX hr
          have h11 := ff hF.o11 rfl
          subst h11
          refine ZO rfl (by kernel_rfl) (some 5) rfl (Z5 V.heap.size 0) (V.alloc (.cells (ZA Xg) 49)) (by kernel_rfl) ?_
          have hF2 := hF.al QX.out (.cells (ZA Xg) 49)
          exact ⟨_, _, _, _, _, _, _, _, _, _, _, _, _, _, _, _, _, _, _, _, rfl, rfl, { hF2 with o11 := (fun h => nomatch h), f5 := fun _ _ => ⟨_, rfl, hF.bt.1.size, heap_alloc_last V _⟩, d5 := (fun h => nomatch h) }⟩
        · obtain rfl : b11 = false := ZX hr
          obtain rfl : b10 = true := ZW hr 10
          obtain rfl : b9 = true := ZW hr 9
          obtain ⟨q, rfl, hq1, hq2⟩ := hF.f5 rfl rfl
          obtain ⟨m, hm, rfl⟩ := hF.f21 rfl
          obtain ⟨hst, hZ⟩ := XV (y := ((nm4.getD i Vr), m, 0)) hq2
          refine XI rfl (by kernel_rfl) rfl 49 (.tmp 5) (.tmp 21) rfl (Z5 q 0) (.agg (ZA ((nm4.getD i Vr), m, 0))) (by kernel_rfl) (by kernel_rfl) _ hst ?_
          exact ⟨_, _, _, _, _, _, _, _, _, _, _, _, _, _, _, _, _, _, _, _, rfl, rfl, hF.s11 hq1 hq2 hm QX.out jE.out hZ⟩
      · intro Zr V hJ
        obtain ⟨b0, b1, b2, b3, b4, b5, b6, b7, b8, b9, b10, b11, x12, x14, x16, x18, x19, x20, x21, x5, he, rfl, hF⟩ := hJ
        have he : (#[true, true, true, true, true, true, true, true, true, true, true, true] : Array Bool) = #[b0, b1, b2, b3, b4, b5, b6, b7, b8, b9, b10, b11] := he
        simp only [Array.mk.injEq, List.cons.injEq, and_true] at he
        obtain ⟨rfl, rfl, rfl, rfl, rfl, rfl, rfl, rfl, rfl, rfl, rfl, rfl⟩ := he
        simp only [cond_true]
        obtain ⟨q, m, hm, rfl, hq1, hbx⟩ := hF.d5 rfl
        have jD := hF.ns
        have Us := hF.bt
        have hnm := HQ4.out i hi4
        generalize nm4.getD i Vr = nm at *
        clear hF h0 CX5
        go_upto_region 6 with fail
        refine wl <| ZV (Z5 g 0) <|
          Yl (fun v w' => ∃ q : Nat, v = Z8 q ∧ (q : Int) < 6 ∧ NS w' g a c L ((kk + 1) + 1) ∧ But g V w') ((Tn jD HL.out (by have := PK.out.2; omega) 6 (by decide) (by decide)).mono fun e w' z => by obtain ⟨q, h1, h2⟩ := z; exact ⟨_, h1, q, rfl, h2⟩) (fun vv V6 hq => ?_)
        obtain ⟨v6, rfl, hv6, jC, DL⟩ := hq
        simp only [pu]
        have Tm := hbx.but DL (by have := QX.out; omega)
        have EW := Z9 (Us.trans DL)
        have F7 := Z9 jC
        clear jD Us hbx DL jC
        by_cases hv0 : v6 = 0
        · skip
          subst hv0
          refine ZM (Xv rfl ((0 : Nat)) (0) (decide_eq_true (rfl))) <| wn ?_
          simp only [pu]
          have hbs := F8 V6
          have hbq : Bx (V6.alloc (.cells (WU RY).toArray 23)) V6.heap.size (WU RY).toArray 23 := heap_alloc_last V6 _
          have hbw : Below V6.heap.size V6 (V6.alloc (.cells (WU RY).toArray 23)) := (Below.refl _ V6).alloc (Nat.le_refl _) _
          have jB := Tm.below Tm.lt hbw
          have hn7 := F7.out.below hbw
          have Oj := But.of_below hbw (Nat.le_of_lt F7.out.lt)
          have jA : V6.heap.size ≠ g := by have := F7.out.lt; omega
          have aa3 : V6.heap.size ≠ q := by have := Tm.lt; omega
          generalize V6.alloc (.cells (WU RY).toArray 23) = V65 at *
          have CX3 := Tn hn7 HL.out (by have := PK.out.2; omega) 3 (by decide) (by decide)
          obtain ⟨g7, yB⟩ := ZR V6.heap.size
          rw [yB] at hbq hbs jA aa3
          go_upto_region 7 with fail
          apply wp_region_lit
          refine Zh (by kernel_rfl) (some 25) rfl 67 3 #[(0, .const (Z7 5)), (1, .const (Z7 18446744073709551615)), (2, .const (Z7 18446744073709551614))] rfl #[(0, Z7 5), (1, Z7 18446744073709551615), (2, Z7 18446744073709551614)] (by kernel_rfl) (.slice (some ⟨g7, 0, none⟩) 3 3) _ hbs ?_
          simp only [pu]
          refine ZV (Z5 g 0) <| Yl (fun v w' => ∃ q : Nat, v = Z8 q ∧ (q : Int) < 3 ∧ NS w' g a c L ((kk + 1 + 1) + 1) ∧ But g V65 w') ((CX3).mono fun e w' z => by obtain ⟨q, h1, h2⟩ := z; exact ⟨_, h1, q, rfl, h2⟩) (fun vv V7 hq => ?_)
          obtain ⟨v7, rfl, hv7, jy, YF⟩ := hq
          have jw := hbq.but YF jA
          have qB := jB.but YF (by have := QX.out; omega)
          have jv : v7 < 3 := by omega
          obtain ⟨V8, Vd, RD, -, DK⟩ := Zb (i := 2) (ty := 23) (v := Z7 (RY.getD v7 0)) (cs' := ZA (nm, m, RY.getD v7 0)) (w0 := V7) (B := q) qB (Below.refl _ _) (Nat.le_refl _) (by show 2 < 3; decide) rfl (by kernel_rfl) rfl
          simp only [pu]
          refine YO (Z5 g7 (0 + v7)) (Ic g7 0 3 3 v7 jv _ _ _ rfl (by kernel_rfl) (by kernel_rfl)) <| ZI rfl ⟨g7, 0 + v7, none⟩ (Z7 (RY.getD v7 0)) (LD jw (k := v7) jv) <| ZV (Z5 q 2) <| Zt rfl (Vd) <| wn ?_
          simp only [pu]
          have hsq := jG v7
          generalize RY.getD v7 0 = sq at *
          have LC := Z9 (qC (EW.out.trans (Oj.trans YF)) DK hq1 (by have := QX.out; omega))
          have HN8 := Z9 ((jy.qE DK hq1 QX.out jE.out))
          clear hbs hbq hbw jB hn7 Oj CX3 jw qB Vd DK YF jy EW F7
          obtain ⟨a7, c7, V9, hap, TL, WJ⟩ := Ie (w := V8) (DR HR.out LC.out HG.out H9.out) (Nat.le_trans H9.out LC.out.1.size) (nm, m, sq) (by have := HG2.out; omega)
          have mJ := Z9 TL
          have Zj := Z9 ((HB.out.trans LC.out).more2 WJ HG.out)
          have HQ9 : Hid (∀ x, x ∈ A ++ [(nm, m, sq)] → mM x) := Z9 (fun x hx => by
            rcases List.mem_append.1 hx with hx | hx
            · exact HQ.out x hx
            · rw [List.mem_singleton] at hx
              subst hx
              exact ⟨hnm, hm, hsq⟩)
          have HN9 := Z9 (Ib HN8.out WJ HG.out HAB.out)
          have qM : Hid (A.length < (A ++ [(nm, m, sq)]).length ∧ (A ++ [(nm, m, sq)]).length = A.length + 1) := Z9 (by rw [List.length_append]; exact ⟨Nat.lt_succ_self _, rfl⟩)
          have hbd := Wp (nm, m, sq) V8
          go_upto_region 8 with fail
          refine wl <| ZV (.slice p3 k3 d3) <| ZI rfl ⟨q, 0, none⟩ (.agg (ZA (nm, m, sq))) (Zn RD) ?_
          simp only [pu]
          refine Zh (by kernel_rfl) (some 33) rfl 22 1 #[(0, .tmp 32)] rfl #[(0, .agg (ZA (nm, m, sq)))] (by kernel_rfl) (.slice (some ⟨V8.heap.size, 0, none⟩) 1 1) _ hbd ?_
          simp only [pu]
          refine Y4 rfl (some 34) rfl 22 rfl (.tmp 31) (.tmp 33) 22 rfl (.slice p3 k3 d3) (.slice (some ⟨V8.heap.size, 0, none⟩) 1 1) (.slice a7 (A ++ [(nm, m, sq)]).length c7) V9 (by kernel_rfl) (by kernel_rfl) hap ?_
          simp only [pu]
          refine ZV (.slice a7 (A ++ [(nm, m, sq)]).length c7) <| wn ?_
          simp only [pu]
          clear hap hbd TL WJ
          go_upto_region 4 with fail
          refine wl <| ZV (Z8 i) <| YO (Z8 ((i : Int) - 1)) (sub_one rfl i (by omega) (by kernel_rfl) _) <| ZV (Z8 ((i : Int) - 1)) <| wn ?_
          simp only [pu]
          go_wp2_with fail
          go_roundg i
          case measure => have := HG2.out; omega
          case rel => exact ⟨(i : Int) - 1, a7, _, c7, A ++ [(nm, m, sq)], rfl, rfl, by omega, by omega, by have := HG2.out; have := qM.out.2; omega, mJ, HQ9, Z9 (HN9.out.mono (by have := PK.out.1; have := qM.out.2; omega)), Zj, by omega⟩
        · skip
          refine ZM (Xv rfl (v6) (0) dF) <| wn ?_
          simp only [pu]
          have hsq : W64 0 := X0
          obtain ⟨a7, c7, V9, hap, TL, WJ⟩ := Ie (w := V6) (DR HR.out EW.out HG.out H9.out) (Nat.le_trans H9.out EW.out.1.size) (nm, m, 0) (by have := HG2.out; omega)
          have mJ := Z9 TL
          have Zj := Z9 ((HB.out.trans EW.out).more2 WJ HG.out)
          have HQ9 : Hid (∀ x, x ∈ A ++ [(nm, m, 0)] → mM x) := Z9 (fun x hx => by
            rcases List.mem_append.1 hx with hx | hx
            · exact HQ.out x hx
            · rw [List.mem_singleton] at hx
              subst hx
              exact ⟨hnm, hm, hsq⟩)
          have HN9 := Z9 (Ib F7.out WJ HG.out HAB.out)
          have qM : Hid (A.length < (A ++ [(nm, m, 0)]).length ∧ (A ++ [(nm, m, 0)]).length = A.length + 1) := Z9 (by rw [List.length_append]; exact ⟨Nat.lt_succ_self _, rfl⟩)
          have hbd := Wp (nm, m, 0) V6
          go_upto_region 8 with fail
          refine wl <| ZV (.slice p3 k3 d3) <| ZI rfl ⟨q, 0, none⟩ (.agg (ZA (nm, m, 0))) (Zn Tm) ?_
          simp only [pu]
          refine Zh (by kernel_rfl) (some 33) rfl 22 1 #[(0, .tmp 32)] rfl #[(0, .agg (ZA (nm, m, 0)))] (by kernel_rfl) (.slice (some ⟨V6.heap.size, 0, none⟩) 1 1) _ hbd ?_
          simp only [pu]
          refine Y4 rfl (some 34) rfl 22 rfl (.tmp 31) (.tmp 33) 22 rfl (.slice p3 k3 d3) (.slice (some ⟨V6.heap.size, 0, none⟩) 1 1) (.slice a7 (A ++ [(nm, m, 0)]).length c7) V9 (by kernel_rfl) (by kernel_rfl) hap ?_
          simp only [pu]
          refine ZV (.slice a7 (A ++ [(nm, m, 0)]).length c7) <| wn ?_
          simp only [pu]
          clear hap hbd TL WJ
          go_upto_region 4 with fail
          refine wl <| ZV (Z8 i) <| YO (Z8 ((i : Int) - 1)) (sub_one rfl i (by omega) (by kernel_rfl) _) <| ZV (Z8 ((i : Int) - 1)) <| wn ?_
          simp only [pu]
          go_wp2_with fail
          go_roundg i
          case measure => have := HG2.out; omega
          case rel => exact ⟨(i : Int) - 1, a7, _, c7, A ++ [(nm, m, 0)], rfl, rfl, by omega, by omega, by have := HG2.out; have := qM.out.2; omega, mJ, HQ9, Z9 (HN9.out.mono (by have := PK.out.1; have := qM.out.2; omega)), Zj, by omega⟩
    · skip
      have HE := Z9 (⟨p3, d3, A, by rw [Ia HR.out], by rw [Ia HR.out]; exact HR.out, HQ.out, by omega, HN.out.mono (by omega), HB.out⟩ : AcO w g a c L k (.returned (.slice p3 k3 d3)) wr)
      clear HR HQ HN HB hg
      go_upto_region 3 with fail
      refine wl <| ZV (Z8 z) <| ZM (Uj rfl (z) (0) dF) <| wn ?_
      simp only [pu]
      go_upto_region 9 with fail
      refine wl <| ZG (.slice p3 k3 d3) (.slice p3 k3 d3) <| wn ?_
      simp only [pu]
      go_wp2_with fail
      go_ret
      exact HE.out
end Go.Proofs.Ytnhlpahoomcgnaa
namespace Go.Proofs.Ytnhlpahoomcgnaa
open Go.RowKit
def mg (w : World) (g : Nat) (a : Option Addr) (c : Nat) (L : List Int) (N : Nat) : Prop := Bx w g #[.slice a L.length c, Z8 N] 69 ∧ Cs w a (XO L) ∧ (L ≠ [] → ∀ x, a = some x → x.block ≠ g)
theorem mg.ns {w : World} {g c N k : Nat} {a : Option Addr} {L : List Int} (h : mg w g a c L N) (hk : N ≤ k) : NS w g a c L k := ⟨N, hk, h⟩
theorem DU {w : World} {g c N v : Nat} {a : Option Addr} {L : List Int} (h : mg w g a c L N) (hl : L.length ≤ 100000) (hN : N ≤ 100000) (n : Int) (hn : 0 < n) (hn2 : n ≤ 1000000) (hv : pl (L.getD N 0) n = v) : Calls Try.prog 21 #[Z5 g 0, Z8 n] w fun e w' => e = .returned (Z8 v) ∧ mg w' g a c L (N + 1) ∧ But g w w' :=
  (Ig g L a c N n w h.1 h.2.1 hl hN hn hn2).mono fun e w' q => ⟨by rw [q.1, hv], ⟨q.2.2, NV h.2.1 q.2.1 h.2.2, h.2.2⟩, q.2.1⟩
theorem qG (L : List Int) (N : Nat) (n : Int) (hn : 0 < n) : ∃ v : Nat, pl (L.getD N 0) n = v ∧ (v : Int) < n := by
  have := Tq (L.getD N 0) n hn
  exact ⟨(pl (L.getD N 0) n).toNat, by omega, by omega⟩
section
variable {ρ : Operand → Value} {o : Oper} {x y : Operand}
theorem QT (ho : o.op = .convert 3 23 x) (a : Int) (h0 : 0 ≤ a) (h1 : a ≤ 1000000) (hx : ρ x = Z8 a) (w : World) : (execOp ρ o).run Try.prog w = .ok (.value (Z7 a)) w := by
  have hw : IntKind.u64.wrap a = a := by rw [IntKind.wrap_u64]; omega
  unfold execOp
  simp only [ho, hx]
  go_simp
end
structure GQ (x : Zf) : Prop where
  snd : dh x.snd
  sq : W64 x.sq
  Zk : 150 ≤ x.Zk ∧ x.Zk ≤ 1000
  Y6 : W64 x.Y6
  memo : MmQ x.memo
  tr : ∀ y, y ∈ x.tr → dh y.1 ∧ 0 < y.2 ∧ W64 y.2
structure St (w : World) (g : Nat) (a : Option Addr) (c : Nat) (L : List Int) (N : Nat) (g4 g6 g7 : Nat) (ra : Option Addr) (rc : Nat) (A : List Ac) (co : Int) (B7 : Nat) (x : Zf) (a2 : Option Addr) (c2 : Nat) (V : World) : Prop where
  bt : But g w V
  ns : mg V g a c L N
  row : Cs V ra (acc A)
  b4 : Bx V g4 #[.slice ra A.length rc, Z7 co] 33
  b6 : Bx V g6 (Zu zX none 0) 57
  b7 : Bx V g7 (Zu x a2 c2) 57
  rt : Yn V B7 (.slice a2 x.tr.length c2) x.tr
  sz : B7 ≤ V.heap.size
structure Ly (w : World) (g : Nat) (a : Option Addr) (L : List Int) (g4 g6 g7 : Nat) (ra : Option Addr) (A : List Ac) (B7 : Nat) : Prop where
  hg : g < w.heap.size
  h4 : w.heap.size ≤ g4
  h6 : w.heap.size ≤ g6
  h7 : w.heap.size ≤ g7
  n46 : g4 ≠ g6
  n47 : g4 ≠ g7
  n67 : g6 ≠ g7
  l4 : g4 < B7
  l6 : g6 < B7
  l7 : g7 < B7
  ab : L ≠ [] → ∀ x, a = some x → x.block < w.heap.size
  rb : acc A ≠ [] → ∀ x, ra = some x → x.block < w.heap.size ∧ x.block ≠ g
section
variable {w : World} {g : Nat} {a : Option Addr} {c : Nat} {L : List Int} {N g4 g6 g7 : Nat} {ra : Option Addr} {rc : Nat} {A : List Ac} {co : Int} {B7 : Nat} {x : Zf} {a2 : Option Addr} {c2 : Nat} {V : World}
end
theorem XJ {fn : Func} {tmps : Array Value} {w : World} {p g ty : Nat} {v : Value} (hr : fn.results = #[.cell p ty]) (h2 : tmps.getD p undef = Z5 g 0) (hl : (Instr.loadAt ty (Z5 g 0)).run Try.prog w = .ok v w) : (results fn tmps).run Try.prog w = .ok v w := by
  unfold results
  rw [hr]
  have h2' : tmps[p]?.getD undef = Z5 g 0 := by simpa using h2
  have hl' := hl
  simp only [Instr.loadAt, Instr.sureAddr, Sem.run_bind, Sem.run_pure, Result.andThen_ok] at hl'
  simp [h2', asAddr, hl', Result.andThen]
structure K4 (w : World) (g : Nat) (a : Option Addr) (c : Nat) (L : List Int) (N : Nat) (g4 g6 g7 : Nat) (ra : Option Addr) (rc : Nat) (A : List Ac) (co : Int) (B7 : Nat) (x : Zf) (W : World) (y : Ac) (b4 b7 b8 : Bool) (x9 : Value) (V : World) : Prop where
  o8 : b8 = true → b7 = true
  ws : W.heap.size ≤ V.heap.size
  st : St w g a c L (N + b4.toNat) g4 g6 g7 ra rc A co B7 x none 0 V
  f9 : b7 = true → b8 = false → ∃ q, x9 = Z5 q 0 ∧ W.heap.size ≤ q ∧ Bx V q (ZA Xg) 49
  d9 : b8 = true → ∃ q, x9 = Z5 q 0 ∧ W.heap.size ≤ q ∧ Bx V q (ZA y) 49
section
variable {w : World} {g : Nat} {a : Option Addr} {c : Nat} {L : List Int} {N g4 g6 g7 : Nat} {ra : Option Addr} {rc : Nat} {A : List Ac} {co : Int} {B7 : Nat} {x : Zf} {W : World} {y : Ac} {b4 b7 b8 : Bool} {x9 : Value} {V : World}
end
section
variable {w : World} {g : Nat} {a : Option Addr} {c : Nat} {L : List Int} {N g4 g6 g7 : Nat} {ra : Option Addr} {rc : Nat} {A : List Ac} {co : Int} {B7 : Nat} {x : Zf} {a2 : Option Addr} {c2 : Nat} {V : World}
end
end Go.Proofs.Ytnhlpahoomcgnaa
namespace Go.Proofs.Ytnhlpahoomcgnaa.Lg
open Go.RowKit
theorem sN {ρ : Operand → Value} {o : Oper} {x y : Operand} (ho : o.op = .binOp .add 3 x y 3) (a b : Int) (hx : ρ x = Z8 a) (hy : ρ y = Z8 b) (w : World) : (execOp ρ o).run Try.prog w = .ok (.value (Z8 (IntKind.i64.wrap (a + b)))) w := by
 unfold execOp
 simp only [ho, hx, hy]
 go_simp
def WG (a b : ByteArray) : Bool := decide (a.data.toList < b.data.toList)
theorem DV : ∀ (x y : List UInt8), Op.bytesLess x y = decide (x < y)
 | [], [] => by simp [Op.bytesLess]
 | _ :: _, [] => by simp [Op.bytesLess]
 | [], _ :: _ => by simp [Op.bytesLess]
 | a :: x, b :: y => by
  unfold Op.bytesLess
  rw [DV x y, Bool.eq_iff_iff]
  simp only [Bool.or_eq_true, Bool.and_eq_true, decide_eq_true_eq, beq_iff_eq, List.cons_lt_cons_iff]
theorem Ih (a : ByteArray) : a.toList = a.data.toList := Lib.toList_data a
theorem ug (a b : ByteArray) : Op.bytesLess a.toList b.toList = WG a b := by rw [DV, Ih, Ih]; rfl
theorem eqB (a b : ByteArray) : (a.toList == b.toList) = decide (a = b) := by
 rw [Ih, Ih]
 by_cases h : a = b
 ·subst h; simp
 ·rw [decide_eq_false h, beq_eq_false_iff_ne]
  intro e
  exact h (ByteArray.ext (Array.toList_inj.1 e))
theorem JE (a b : ByteArray) : (a == b) = decide (a = b) := by rw [beq_toListBytes, eqB]
theorem QS (a : ByteArray) : WG a a = false := decide_eq_false (List.lt_irrefl _)
theorem RZ {a b c : ByteArray} (h : WG a b = true) (g : WG b c = true) : WG a c = true := decide_eq_true (List.lt_trans (of_decide_eq_true h) (of_decide_eq_true g))
theorem D6 {a b : ByteArray} (h : WG a b = true) : WG b a = false := by
 rw [Bool.eq_false_iff]
 intro g
 have := RZ h g
 rw [QS] at this
 cases this
theorem qI {a b : ByteArray} (h : WG a b = true) : a ≠ b := by
 rintro rfl
 rw [QS] at h
 cases h
theorem N7 {a b : ByteArray} (h : WG a b = false) (hn : a ≠ b) : WG b a = true := by
 refine decide_eq_true ?_
 have h1 : ¬ a.data.toList < b.data.toList := of_decide_eq_false h
 have h2 : b.data.toList ≤ a.data.toList := List.not_lt.1 h1
 rcases List.le_iff_lt_or_eq.1 h2 with h3 | h3
 ·exact h3
 ·exact absurd (ByteArray.ext (Array.toList_inj.1 h3)).symm hn
theorem um {ρ : Operand → Value} {o : Oper} {x y : Operand} (ho : o.op = .binOp .lss 9 x y 9) (a b : ByteArray) {t : Bool} (ht : WG a b = t) (hx : ρ x = .string a) (hy : ρ y = .string b) (w : World) : (execOp ρ o).run Try.prog w = .ok (.value (.bool t)) w := by
 have e : Op.bytesLess a.toList b.toList = t := (ug a b).trans ht
 unfold execOp
 simp only [ho, hx, hy]
 go_simp
theorem uj {ρ : Operand → Value} {o : Oper} {x y : Operand} (ho : o.op = .binOp .gtr 9 x y 9) (a b : ByteArray) {t : Bool} (ht : WG b a = t) (hx : ρ x = .string a) (hy : ρ y = .string b) (w : World) : (execOp ρ o).run Try.prog w = .ok (.value (.bool t)) w := by
 have e : (!(Op.bytesLess a.toList b.toList || a.toList == b.toList)) = t := by
  rw [ug, eqB, ← ht]
  by_cases h : WG a b = true
  ·rw [h, D6 h]; rfl
  ·have h1 : WG a b = false := by simpa using h
   by_cases h2 : a = b
   ·subst h2; rw [QS]; simp
   ·rw [h1, N7 h1 h2, decide_eq_false h2]; rfl
 unfold execOp
 simp only [ho, hx, hy]
 go_simp
theorem Ii (x y : Int) (hx : 0 ≤ x) (hy : 0 ≤ y) (w : World) : (callFunc 90 #[Z7 x, Z7 y, Z7 0]).run Try.prog w =
  .ok (.value (.tuple #[Z7 ((x + y) % 18446744073709551616), Z7 ((x + y) / 18446744073709551616)])) w := by
 rw [run_callFunc_extern Try.func90 (by kernel_rfl) (by kernel_rfl) (by kernel_rfl) (e := add64Entry) (by kernel_rfl), run_add64 x y 0 hx hy (by omega) (by omega)]
 simp only [Result.andThen, Int.add_zero]
def PL (a b : Int) : Bool := decide (a + b < 18446744073709551616)
def PN (a b : Int) : Int := if a + b < 18446744073709551616 then a + b else 0
theorem Gg (a b : Int) (w : World) (ha : W64 a) (hb : W64 b) :
  Calls Try.prog 80 #[Z7 a, Z7 b] w fun e w' => e = .returned (.tuple #[Z7 (PN a b), .bool (PL a b)]) ∧ w = w' := by
 obtain ⟨a0, a1⟩ := ha; obtain ⟨b0, b1⟩ := hb
 have hL := Ii a b a0 b0
 by_cases h : a + b < 18446744073709551616
 ·have e1 : PN a b = a + b := if_pos h
  have e2 : PL a b = true := decide_eq_true h
  have q1 : (a + b) % 18446744073709551616 = a + b := by omega
  have q2 : (a + b) / 18446744073709551616 = 0 := by omega
  simp only [q1, q2] at hL
  rw [e1, e2]
  clear e1 e2 q1 q2
  go_enter Try.func80, Try.ntmps80
  go_wp2_with (simp only [hL])
  go_ret2
  exact ⟨rfl, rfl⟩
 ·have e1 : PN a b = 0 := if_neg h
  have e2 : PL a b = false := decide_eq_false h
  have q2 : (a + b) / 18446744073709551616 = 1 := by omega
  simp only [q2] at hL
  rw [e1, e2]
  clear e1 e2 q2
  go_enter Try.func80, Try.ntmps80
  go_wp2_with (simp only [hL])
  go_ret2
  exact ⟨rfl, rfl⟩
theorem yK (a b : Int) (w : World) (ha : W64 a) (hb : W64 b) :
  Calls Try.prog 54 #[Z7 a, Z7 b] w fun e w' => e = .returned (.tuple #[Z7 (PN a b), .bool (PL a b)]) ∧ w = w' := by
 obtain ⟨a0, a1⟩ := ha; obtain ⟨b0, b1⟩ := hb
 by_cases h : a + b < 18446744073709551616
 ·have e1 : PN a b = a + b := if_pos h
  have e2 : PL a b = true := decide_eq_true h
  have h' : ¬ (18446744073709551615 - b < a) := by omega
  rw [e1, e2]
  clear e1 e2
  go_enter Try.func54, Try.ntmps54
  go_wp2
  go_ret2
  exact ⟨rfl, rfl⟩
 ·have e1 : PN a b = 0 := if_neg h
  have e2 : PL a b = false := decide_eq_false h
  have h' : 18446744073709551615 - b < a := by omega
  rw [e1, e2]
  clear e1 e2
  go_enter Try.func54, Try.ntmps54
  go_wp2
  go_ret2
  exact ⟨rfl, rfl⟩
def tot (l : List Int) : Int := l.foldl (· + ·) 0
def JL (l : List Int) : Bool := decide (tot l < 18446744073709551616)
def JK (l : List Int) : Int := if tot l < 18446744073709551616 then tot l else 0
theorem yD (l : List Int) : ∀ a : Int, l.foldl (· + ·) a = a + tot l := by
 induction l with
 | nil => intro a; simp [tot]
 | cons x l ih =>
  intro a
  have h1 := ih (a + x)
  have h2 := ih (0 + x)
  simp only [tot, List.foldl_cons] at *
  omega
theorem YQ (x : Int) (l : List Int) : tot (x :: l) = x + tot l := by
 have := yD l (0 + x)
 simp only [tot, List.foldl_cons] at *
 omega
theorem Yo (l r : List Int) : tot (l ++ r) = tot l + tot r := by
 induction l with
 | nil => simp [tot]
 | cons x l ih => rw [List.cons_append, YQ, YQ, ih]; omega
theorem DW (l : List Int) (k : Nat) (h : k < l.length) : tot (l.take (k + 1)) = tot (l.take k) + l.getD k 0 := by
 rw [List.take_succ_eq_append_getElem h, Yo, List.getD_eq_getElem?_getD, List.getElem?_eq_getElem h, YQ]
 simp [tot]
theorem XL (l : List Int) : (∀ x, x ∈ l → 0 ≤ x) → 0 ≤ tot l := by
 induction l with
 | nil => intro _; simp [tot]
 | cons x l ih =>
  intro h
  rw [YQ]
  have := ih (fun y hy => h y (List.mem_cons_of_mem _ hy))
  have := h x (List.mem_cons_self ..)
  omega
theorem O8 (l : List Int) (hw : ∀ k, k < l.length → W64 (l.getD k 0)) (x : Int) (hx : x ∈ l) : W64 x := by
 obtain ⟨j, hj, rfl⟩ := List.getElem_of_mem hx
 have := hw j hj
 rw [List.getD_eq_getElem?_getD, List.getElem?_eq_getElem hj] at this
 exact this
theorem Vh (l : List Int) (hw : ∀ k, k < l.length → W64 (l.getD k 0)) (k : Nat) : tot (l.take k) ≤ tot l := by
 have h := Yo (l.take k) (l.drop k)
 rw [List.take_append_drop] at h
 have := XL (l.drop k) (fun x hx => (O8 l hw x (List.mem_of_mem_drop hx)).1)
 omega
theorem O9 (a : Option Addr) (cap : Nat) (l : List Int) (w : World) (hl : l.length ≤ 9223372036854775807) (hc : ∀ k, k < l.length → ∃ b off, a = some ⟨b, off, none⟩ ∧ w.cell? ⟨b, off + k, none⟩ = some (Z7 (l.getD k 0))) (hw : ∀ k, k < l.length → W64 (l.getD k 0)) :
  Calls Try.prog 65 #[.slice a l.length cap] w fun e w' => e = .returned (.tuple #[Z7 (JK l), .bool (JL l)]) ∧ w = w' := by
 go_enter Try.func65, Try.ntmps65
 go_wp2_with fail
 go_loopg [4, 11] l.length (fun g s4 s11 wx => w = wx ∧ ∃ k : Nat, k ≤ l.length ∧ s4 = Z7 (tot (l.take k)) ∧ s11 = Z8 k ∧ l.length - k = g ∧ Hid (tot (l.take k) < 18446744073709551616))
 case atStart => exact ⟨rfl, 0, by omega, rfl, rfl, rfl, Z9 (by simp [tot])⟩
 case round =>
  obtain ⟨rfl, k, hk, rfl, rfl, rfl, ht⟩ := hrel
  by_cases hlt : k < l.length
  ·obtain ⟨b, off, ea, hcell⟩ := hc k hlt
   have hx := hw k hlt
   have hts := DW l k hlt
   have ht0 := XL (l.take k) (fun x hx => (O8 l hw x (List.mem_of_mem_take hx)).1)
   have hA := fun w => Gg (tot (l.take k)) (l.getD k 0) w ⟨ht0, by have := ht.out; omega⟩ hx
   have hle := Vh l hw (k + 1)
   obtain ⟨x, hxe⟩ := ZR (l.getD k 0)
   obtain ⟨t, hte⟩ := ZR (tot (l.take k))
   rw [hxe] at hcell hx hts hA
   rw [hte] at hts hA ht0 ht
   rw [hts] at hle
   rw [hte]
   subst ea
   clear hxe hte hc hw
   by_cases hs : t + x < 18446744073709551616
   ·have e1 : PN t x = t + x := if_pos hs
    have e2 : PL t x = true := decide_eq_true hs
    rw [e1, e2] at hA
    have HS := Z9 hts
    have hs' := Z9 hs
    clear e1 e2 hts hle
    go_wp2_with (go_at_call 80; refine (hA _).mono ?_; rintro e w' ⟨rfl, rfl⟩)
    go_roundg (l.length - (k + 1))
    case measure => omega
    case rel => exact ⟨rfl, k + 1, by omega, by rw [HS.out], by first | rfl | go_num, rfl, by rw [HS.out]; exact hs'⟩
   ·have e1 : PN t x = 0 := if_neg hs
    have e2 : PL t x = false := decide_eq_false hs
    rw [e1, e2] at hA
    have f1 := Z9 (show JK l = 0 from if_neg (by omega))
    have f2 := Z9 (show JL l = false from decide_eq_false (by omega))
    clear e1 e2 hts hle
    go_wp2_with (go_at_call 80; refine (hA _).mono ?_; rintro e w' ⟨rfl, rfl⟩)
    go_ret2
    exact ⟨by rw [f1.out, f2.out]; rfl, rfl⟩
  ·obtain rfl : k = l.length := by omega
   rw [List.take_length] at ht ⊢
   have f1 := Z9 (show JK l = tot l from if_pos ht.out)
   have f2 := Z9 (show JL l = true from decide_eq_true ht.out)
   clear hc hw
   go_wp2_with fail
   go_ret2
   exact ⟨by rw [f1.out, f2.out]; rfl, rfl⟩
section
variable {P : Program} {t e s bytes : Nat} {z : Value}
theorem Ua (hu : P.underlying t = some (.slice e)) (hinfo : (P.info? e).map (fun i => (i.zero, i.size, i.bytes)) = some (some z, s, bytes)) (hzs : z.cells.size = s) (hs : 0 < s)
  {w : World} {B n m : Nat} {v : Value} {xs : List Value} (hO : w.ownsRow B e s v n xs) (pa : Option Addr) (cp : Nat) (ys : List Value) (hP : Cs w pa ys) (hl : ys.length = m * s) (h1 : ∀ u ∈ ys, u.oneCell' = true) (hB : B ≤ w.heap.size) (hby : 0 < bytes) (hn : (n + m) * bytes ≤ 140737488355328) :
  ∃ v' w', (Builtin.append_ #[t, t] t #[v, .slice pa m cp]).run P w = .ok v' w' ∧ w'.ownsRow B e s v' (n + m) (xs ++ ys) ∧ Below B w w' ∧ w.grownBy w' v.ownBlock ∧ (v'.ownBlock = v.ownBlock ∨ v'.ownBlock = some w.heap.size) := by
 obtain ⟨i0, hi, hz0, hz1, hz2⟩ := info_parts hinfo
 by_cases hy : ys = []
 ·subst hy
  obtain rfl : m = 0 := by
   rcases Nat.eq_zero_or_pos m with h | h
   ·exact h
   ·have := Nat.mul_pos h hs
    rw [← hl] at this
    simp at this
  cases pa with
  | none =>
   refine ⟨v, w, ?_, by simpa using hO, Below.refl _ _, World.grownBy.refl w _, .inl rfl⟩
   rcases hO.2 with ⟨rfl, h0⟩ | ⟨g, cap, cur, rfl, _, _, hnc, _⟩
   ·simp [Builtin.append_, run_underlying hu, sizeOf, typeInfo, hi, Builtin.lenOf, Builtin.firstCells]
   ·simp [Builtin.append_, run_underlying hu, sizeOf, typeInfo, hi, Builtin.lenOf, Builtin.firstCells, hnc, storeCells]
  | some x =>
   obtain ⟨v', w', hr, h2, h3, -, h4⟩ := run_append_own_at (P := P) w B t t e i0 z s bytes hu hi hz0 hz1 hz2 hzs hs v n xs hO x 0 cp [] (by simp) (fun j u h => by simp at h) (by simp) (by unfold maxLen; have := Nat.le_mul_of_pos_right (n + 0) hby; omega) hn hB
   exact ⟨v', w', hr, h2, (Below.refl _ w).grown h3 hB (fun j hj => (hO.lt j hj).1), h3, h4⟩
 ·obtain ⟨y, hy0⟩ : ∃ y, ys[0]? = some y := by
   cases ys with
   | nil => exact absurd rfl hy
   | cons y r => exact ⟨y, rfl⟩
  obtain ⟨b, off, rfl, -⟩ := hP 0 y hy0
  have hcells : ∀ j u, ys[j]? = some u → w.cell? ((⟨b, off, none⟩ : Addr).add j) = some u := fun j u hu => by
   obtain ⟨b2, off2, e2, -, hc⟩ := hP j u hu
   simp only [Option.some.injEq, Addr.mk.injEq, and_true] at e2
   obtain ⟨rfl, rfl⟩ := e2
   rw [Addr.add_mid]
   exact hc
  obtain ⟨v', w', hr, h2, h3, -, h4⟩ := run_append_own_at (P := P) w B t t e i0 z s bytes hu hi hz0 hz1 hz2 hzs hs v n xs hO ⟨b, off, none⟩ m cp ys hl hcells h1 (by unfold maxLen; have := Nat.le_mul_of_pos_right (n + m) hby; omega) hn hB
  exact ⟨v', w', hr, h2, (Below.refl _ w).grown h3 hB (fun j hj => (hO.lt j hj).1), h3, h4⟩
end
theorem yN (A : List Ac) (k : Nat) (h : k < A.length) : (A.map (·.2.1)).getD k 0 = (aca A k).2.1 := by
 rw [List.getD_eq_getElem?_getD, List.getElem?_map, List.getElem?_eq_getElem h]
 unfold aca
 rw [List.getD_eq_getElem?_getD, List.getElem?_eq_getElem h]
 rfl
end Go.Proofs.Ytnhlpahoomcgnaa.Lg
