/-
  The opening of TxValidates and TxEncodes.
-/
import Derived.Test.YtaaeepanelmgnaaMD
import Derived.Test.YtaaeepanelmgnaaPA
namespace Go.Proofs.Ytaaeepanelmgnaa
open Go.RowKit
set_option linter.unusedSimpArgs false
set_option linter.unusedVariables false

theorem new_two (V : World) (x y : Txd) (a a' : Option Addr) (c c' : Nat) : ∃ Va V2 V3, V.alloc (.cells (txA zX none 0) 29) = Va ∧ V.heap.size < Va.heap.size ∧
    (Instr.storeAt 29 (.pointer (some ⟨V.heap.size, 0, none⟩)) (.agg (txA x a c))).run Try.prog (Va.alloc (.cells (txA zX none 0) 29)) = .ok () V2 ∧
    (Instr.storeAt 29 (.pointer (some ⟨Va.heap.size, 0, none⟩)) (.agg (txA y a' c'))).run Try.prog V2 = .ok () V3 ∧
    Below V.heap.size V V3 ∧ Bx V3 V.heap.size (txA x a c) 29 ∧ Bx V3 Va.heap.size (txA y a' c') 29 := by
  have hX1 : Bx (V.alloc (.cells (txA zX none 0) 29)) V.heap.size (txA zX none 0) 29 := heap_alloc_last V _
  have hb1 : Below V.heap.size V (V.alloc (.cells (txA zX none 0) 29)) := (Below.refl _ V).alloc (Nat.le_refl _) _
  obtain ⟨Va, hVa⟩ : ∃ Va, V.alloc (.cells (txA zX none 0) 29) = Va := ⟨_, rfl⟩
  rw [hVa] at hX1 hb1
  have hX2 : Bx (Va.alloc (.cells (txA zX none 0) 29)) Va.heap.size (txA zX none 0) 29 := heap_alloc_last Va _
  have hb2 : Below Va.heap.size Va (Va.alloc (.cells (txA zX none 0) 29)) := (Below.refl _ Va).alloc (Nat.le_refl _) _
  have hlt := hX1.lt
  obtain ⟨hs1, hY1⟩ := store_txz (y := x) (a' := a) (c' := c) (hX1.below hX1.lt hb2)
  have hn : Va.heap.size ≠ V.heap.size := by omega
  obtain ⟨hs2, hY2⟩ := store_txz (y := y) (a' := a') (c' := c') (hX2.but (But.setRow _ (txA x a c)) hn)
  exact ⟨Va, _, _, hVa, hlt, hs1, hs2, (hb1.trans (hb2.mono hb1.size)).trans (((But.setRow _ _).1).trans ((But.setRow _ _).1.mono (Nat.le_of_lt hlt))), hY1.but (But.setRow _ _) hn.symm, hY2⟩
/-- The memory behind the opening. -/
structure Vd (w : World) (g2 g5 g6 : Nat) (t : Txd) (a : Option Addr) (c : Nat) (xa : Txd) (a1 : Option Addr) (c1 : Nat) (xb : Txd) (a2 : Option Addr) (c2 : Nat) (V : World) : Prop where
  bel : Below w.heap.size w V
  b2 : Bx V g2 (txA t a c) 29
  b5 : Bx V g5 (txA xa a1 c1) 29
  b6 : Bx V g6 (txA xb a2 c2) 29
  r2 : Cs V a (tfc t.tr)
  r5 : Cs V a1 (tfc xa.tr)
  r6 : Cs V a2 (tfc xb.tr)
theorem Vd.below {w : World} {g2 g5 g6 : Nat} {t : Txd} {a : Option Addr} {c : Nat} {xa : Txd} {a1 : Option Addr} {c1 : Nat} {xb : Txd} {a2 : Option Addr} {c2 : Nat} {V V2 : World} (h : Vd w g2 g5 g6 t a c xa a1 c1 xb a2 c2 V) (hb : Below V.heap.size V V2) : Vd w g2 g5 g6 t a c xa a1 c1 xb a2 c2 V2 :=
  ⟨h.bel.trans (hb.mono h.bel.size), h.b2.below h.b2.lt hb, h.b5.below h.b5.lt hb, h.b6.below h.b6.lt hb, h.r2.below hb, h.r5.below hb, h.r6.below hb⟩
theorem Vd.drew {w : World} {g2 g5 g6 : Nat} {t : Txd} {a : Option Addr} {c : Nat} {xa : Txd} {a1 : Option Addr} {c1 : Nat} {xb : Txd} {a2 : Option Addr} {c2 : Nat} {V : World} (h : Vd w g2 g5 g6 t a c xa a1 c1 xb a2 c2 V) : Vd w g2 g5 g6 t a c xa a1 c1 xb a2 c2 V.drew :=
  ⟨h.bel.drew, h.b2, h.b5, h.b6, h.r2, h.r5, h.r6⟩
end Go.Proofs.Ytaaeepanelmgnaa
