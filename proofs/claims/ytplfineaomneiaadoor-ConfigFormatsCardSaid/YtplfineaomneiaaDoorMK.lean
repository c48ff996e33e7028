/-
 mempoolmake's Numbers and Config, the statements' changed: contracts.
-/
import Derived.Test.YtplfineaomneiaaDoorRQ
namespace Go.Proofs.YtplfineaomneiaaDoor
attribute [local irreducible] wpList wpQuiet
open Go.RowKit
set_option maxRecDepth 100000
set_option linter.unusedSimpArgs false
set_option linter.unusedVariables false

/-- The numbers: N were used. -/
def Nm (w : World) (g : Nat) (a : Option Addr) (c : Nat) (L : List Int) (N : Nat) : Prop := Bx w g #[.slice a L.length c, .int .i64 N] 79 ∧ Cs w a (icells L) ∧ (L ≠ [] → ∀ x, a = some x → x.block < g)
section
variable {w w' : World} {g c N q : Nat} {a : Option Addr} {L : List Int}
theorem Nm.lt (h : Nm w g a c L N) : g < w.heap.size := h.1.lt
theorem Nm.below (h : Nm w g a c L N) (hb : Below w.heap.size w w') : Nm w' g a c L N := ⟨h.1.below h.1.lt hb, h.2.1.below hb, h.2.2⟩
theorem cs_but0 {cs : List Value} (h : Cs w a cs) (hb : But q w w') (hn : cs ≠ [] → ∀ x, a = some x → x.block ≠ q) : Cs w' a cs := by
 cases cs with
 | nil => exact Cs.nil _ _
 | cons x r => exact h.but hb (hn (by simp))
theorem ic_ne (h : icells L ≠ []) : L ≠ [] := fun e => h (by rw [e]; rfl)
theorem Nm.but (h : Nm w g a c L N) (hb : But q w w') (hq : g < q) : Nm w' g a c L N := ⟨h.1.but hb (by omega), cs_but0 h.2.1 hb (fun hn x hx => by have := h.2.2 (ic_ne hn) x hx; omega), h.2.2⟩
theorem Nm.low (h : Nm w g a c L N) {B : Nat} (hb : Below B w w') (hg : g < B) : Nm w' g a c L N := ⟨h.1.below hg hb, cs_same h.2.1 fun k hk => hb.block k (by obtain ⟨hn, x, hx, rfl⟩ := hk; have := h.2.2 (ic_ne hn) x hx; omega), h.2.2⟩
theorem Nm.buts {B : Nat} {S : Nat → Prop} (h : Nm w g a c L N) (hb : ButS B S w w') (hg : g < B) : Nm w' g a c L N := h.low hb.1 hg
theorem nx (h : Nm w g a c L N) (hl : L.length ≤ 100000) (hN : N ≤ 100000) (n : Int) (hn : 0 < n) (hn2 : n ≤ 1000000) : Calls Tryd.prog 41 #[.pointer (some ⟨g, 0, none⟩), .int .i64 n] w fun e w' => (∃ v : Nat, e = .returned (.int .i64 v) ∧ (v : Int) < n ∧ (v : Int) = pl (L.getD N 0) n) ∧ Nm w' g a c L (N + 1) ∧ But g w w' :=
 (mk_next g L a c N n w h.1 h.2.1 hl hN hn hn2).mono fun e w' z => by
  have hp := pl_range (L.getD N 0) n hn
  obtain ⟨z1, z2, z3⟩ := z
  have hv : ((pl (L.getD N 0) n).toNat : Int) = pl (L.getD N 0) n := by omega
  exact ⟨⟨(pl (L.getD N 0) n).toNat, by rw [z1, hv], by omega, hv⟩, ⟨z3, cs_but0 h.2.1 z2 (fun hn x hx => by have := h.2.2 (ic_ne hn) x hx; omega), h.2.2⟩, z2⟩
end
/-- A made configuration. -/
def MadeC (c : List Int) : Prop := CfOk c ∧ valL c = 0
theorem made_ok (x0 x1 x2 x3 x4 x5 x6 x7 x8 x9 x10 x11 : Int) (h : 1 ≤ x0 ∧ x0 ≤ 512 ∧ 1 ≤ x1 ∧ x1 ≤ 1048576 ∧ 1 ≤ x2 ∧ x2 ≤ 4096 ∧ 0 ≤ x3 ∧ x3 ≤ 1024 ∧ 0 ≤ x4 ∧ x4 ≤ 1073741824 ∧ 0 ≤ x5 ∧ x5 ≤ 1073741824 ∧ 0 ≤ x6 ∧ x6 ≤ 1 ∧ 1 ≤ x7 ∧ x7 ≤ 1048576 ∧ -1 ≤ x8 ∧ x8 ≤ 1125899906842624 ∧ 0 ≤ x10 ∧ x10 ≤ 7 ∧ 1 ≤ x11 ∧ x11 ≤ 8 ∧ 0 ≤ x9 ∧ x9 < 18446744073709551616 ∧ x10 < x11) : MadeC [x0, x1, x2, x3, x4, x5, x6, x7, x8, x9, x10, x11] := by
 refine ⟨⟨rfl, ?_, ?_, ?_, ?_⟩, ?_⟩
 ·show x6 = 0 ∨ x6 = 1; omega
 ·show 0 ≤ x9; omega
 ·show x9 < 18446744073709551616; omega
 ·intro i hi h9
  match i, hi, h9 with
  | 0, _, _ => exact (show _ ≤ x0 ∧ x0 < _ by omega)
  | 1, _, _ => exact (show _ ≤ x1 ∧ x1 < _ by omega)
  | 2, _, _ => exact (show _ ≤ x2 ∧ x2 < _ by omega)
  | 3, _, _ => exact (show _ ≤ x3 ∧ x3 < _ by omega)
  | 4, _, _ => exact (show _ ≤ x4 ∧ x4 < _ by omega)
  | 5, _, _ => exact (show _ ≤ x5 ∧ x5 < _ by omega)
  | 6, _, _ => exact (show _ ≤ x6 ∧ x6 < _ by omega)
  | 7, _, _ => exact (show _ ≤ x7 ∧ x7 < _ by omega)
  | 8, _, _ => exact (show _ ≤ x8 ∧ x8 < _ by omega)
  | 10, _, _ => exact (show _ ≤ x10 ∧ x10 < _ by omega)
  | 11, _, _ => exact (show _ ≤ x11 ∧ x11 < _ by omega)
 ·refine (val_fin ?_).trans (if_pos (show x10 < x11 by omega))
  intro i hi
  match i, hi with
  | 0, _ => exact .inr (show (1 : Int) ≤ x0 ∧ x0 ≤ (512 : Int) by omega)
  | 1, _ => exact .inr (show (1 : Int) ≤ x1 ∧ x1 ≤ (1048576 : Int) by omega)
  | 2, _ => exact .inr (show (1 : Int) ≤ x2 ∧ x2 ≤ (4096 : Int) by omega)
  | 3, _ => exact .inr (show (0 : Int) ≤ x3 ∧ x3 ≤ (1024 : Int) by omega)
  | 4, _ => exact .inr (show (0 : Int) ≤ x4 ∧ x4 ≤ (1073741824 : Int) by omega)
  | 5, _ => exact .inr (show (0 : Int) ≤ x5 ∧ x5 ≤ (1073741824 : Int) by omega)
  | 6, _ => exact .inr (show (0 : Int) ≤ x6 ∧ x6 ≤ (1 : Int) by omega)
  | 7, _ => exact .inr (show (1 : Int) ≤ x7 ∧ x7 ≤ (1048576 : Int) by omega)
  | 8, _ => exact .inr (show (-1 : Int) ≤ x8 ∧ x8 ≤ (1125899906842624 : Int) by omega)
  | 9, _ => exact .inl rfl
  | 10, _ => exact .inr (show (0 : Int) ≤ x10 ∧ x10 ≤ (7 : Int) by omega)
  | 11, _ => exact .inr (show (1 : Int) ≤ x11 ∧ x11 ≤ (8 : Int) by omega)
theorem cf_raw (x0 x1 x2 x3 x4 x5 x6 x7 x8 x9 x10 x11 : Int) : cfA [x0, x1, x2, x3, x4, x5, x6, x7, x8, x9, x10, x11] = #[.int .i64 x0, .int .i64 x1, .int .i64 x2, .int .i64 x3, .int .i64 x4, .int .i64 x5, .bool (decide (x6 = 1)), .int .i64 x7, .int .i64 x8, .int .u64 x9, .int .i64 x10, .int .i64 x11] := rfl
theorem mul_is {ρ : Operand → Value} {o : Oper} {x y : Operand} (ho : o.op = .binOp .mul 3 x y 3) (a b : Nat) (h : a * b ≤ 1000000) (hx : ρ x = .int .i64 a) (hy : ρ y = .int .i64 b) (w : World) : (execOp ρ o).run Tryd.prog w = .ok (.value (.int .i64 (a * b : Nat))) w := by
 have hw : IntKind.i64.wrap ((a : Int) * b) = ((a * b : Nat) : Int) := by rw [IntKind.wrap_i64, ← Int.natCast_mul]; omega
 have hw2 : IntKind.i64.wrap ((a * b : Nat) : Int) = ((a * b : Nat) : Int) := by rw [IntKind.wrap_i64]; omega
 unfold execOp
 simp only [ho, hx, hy]
 go_simp
theorem but_st {g g3 : Nat} {w V V2 : World} (h : But g w V) (k : But g3 V V2) (h1 : w.heap.size ≤ g3) (h2 : g ≤ g3) : But g w V2 :=
 ⟨h.1.trans (k.1.mono h2), fun j hj hne => (k.2 j (Nat.lt_of_lt_of_le hj h.1.size) (by omega)).trans (h.2 j hj hne)⟩
/-- A made configuration, and what is left of the numbers. -/
def MkO (w : World) (g : Nat) (a : Option Addr) (c : Nat) (L : List Int) (N : Nat) (e : Ending) (w' : World) : Prop := ∃ cf N2, e = .returned (.agg (cfA cf)) ∧ MadeC cf ∧ N2 ≤ N + 14 ∧ Nm w' g a c L N2 ∧ But g w w'
set_option maxRecDepth 100000 in
set_option maxHeartbeats 8000000 in
theorem mk_config {w : World} {g c N : Nat} {a : Option Addr} {L : List Int} (h : Nm w g a c L N) (hl : L.length ≤ 100000) (hN : N ≤ 90000) : Calls Tryd.prog 20 #[.pointer (some ⟨g, 0, none⟩)] w (MkO w g a c L N) := by
 have hgl := h.lt
 have hb0 : Below w.heap.size w (w.alloc (.cells #[.int .i64 0, .int .i64 0, .int .i64 0, .int .i64 0, .int .i64 0, .int .i64 0, .bool false, .int .i64 0, .int .i64 0, .int .u64 0, .int .i64 0, .int .i64 0] 24)) := (Below.refl _ w).alloc (Nat.le_refl _) _
 have hX2 : Bx (w.alloc (.cells #[.int .i64 0, .int .i64 0, .int .i64 0, .int .i64 0, .int .i64 0, .int .i64 0, .bool false, .int .i64 0, .int .i64 0, .int .u64 0, .int .i64 0, .int .i64 0] 24)) w.heap.size #[.int .i64 0, .int .i64 0, .int .i64 0, .int .i64 0, .int .i64 0, .int .i64 0, .bool false, .int .i64 0, .int .i64 0, .int .u64 0, .int .i64 0, .int .i64 0] 24 := heap_alloc_last w _
 have hns0 := h.below hb0
 obtain ⟨W, hW⟩ : ∃ W, w.alloc (.cells #[.int .i64 0, .int .i64 0, .int .i64 0, .int .i64 0, .int .i64 0, .int .i64 0, .bool false, .int .i64 0, .int .i64 0, .int .u64 0, .int .i64 0, .int .i64 0] 24) = W := ⟨_, rfl⟩
 rw [hW] at hb0 hX2 hns0
 have HB := Lib.hid (But.of_below hb0 (Nat.le_of_lt hgl))
 have HL := Lib.hid hl
 have HNN := Lib.hid hN
 have hC0 : But g W W := ⟨Below.refl _ _, fun _ _ _ => rfl⟩
 clear h hb0 hl hN
 go_enter Tryd.func20, Tryd.ntmps20
 go_upto_region 1 with fail
 obtain ⟨g2, hg2⟩ : ∃ g2, w.heap.size = g2 := ⟨_, rfl⟩
 rw [hg2] at hX2 hgl
 simp only [hg2]
 have HG2 : Hid (w.heap.size ≤ g2) := Lib.hid (Nat.le_of_eq hg2)
 clear hW hg2
 refine wl <| gz1 (.pointer (some ⟨g, 0, none⟩)) <|
  gze (fun v w' => ∃ q : Nat, v = .int .i64 q ∧ (q : Int) < 7 ∧ Nm w' g a c L (N + 1) ∧ But g W w') ((nx hns0 HL.out (by have := HNN.out; omega) 7 (by first | decide | omega) (by first | decide | omega)).mono fun e w' z => by obtain ⟨⟨q, h1, h2, -⟩, h3, h4⟩ := z; exact ⟨_, h1, q, rfl, h2, h3, h4⟩) (fun vv V1 hq => ?_)
 obtain ⟨v1, rfl, hv1, hns1, hbt1⟩ := hq
 have hC1 := hC0.trans hbt1
 simp only [pu]
 refine gzw (.int .i64 (1 + v1)) (add_i rfl 1 v1 (by omega)) <| gz1 (.pointer (some ⟨g, 0, none⟩)) <|
  gze (fun v w' => ∃ q : Nat, v = .int .i64 q ∧ (q : Int) < 400 ∧ Nm w' g a c L ((N + 1) + 1) ∧ But g V1 w') ((nx hns1 HL.out (by have := HNN.out; omega) 400 (by first | decide | omega) (by first | decide | omega)).mono fun e w' z => by obtain ⟨⟨q, h1, h2, -⟩, h3, h4⟩ := z; exact ⟨_, h1, q, rfl, h2, h3, h4⟩) (fun vv V2 hq => ?_)
 obtain ⟨v2, rfl, hv2, hns2, hbt2⟩ := hq
 have hC2 := hC1.trans hbt2
 simp only [pu]
 refine gzw (.int .i64 (250 + v2)) (add_i rfl 250 v2 (by omega)) <| gz1 (.pointer (some ⟨g, 0, none⟩)) <|
  gze (fun v w' => ∃ q : Nat, v = .int .i64 q ∧ (q : Int) < 140 ∧ Nm w' g a c L (((N + 1) + 1) + 1) ∧ But g V2 w') ((nx hns2 HL.out (by have := HNN.out; omega) 140 (by first | decide | omega) (by first | decide | omega)).mono fun e w' z => by obtain ⟨⟨q, h1, h2, -⟩, h3, h4⟩ := z; exact ⟨_, h1, q, rfl, h2, h3, h4⟩) (fun vv V3 hq => ?_)
 obtain ⟨v3, rfl, hv3, hns3, hbt3⟩ := hq
 have hC3 := hC2.trans hbt3
 simp only [pu]
 refine gzw (.int .i64 (60 + v3)) (add_i rfl 60 v3 (by omega)) <| gz1 (.pointer (some ⟨g, 0, none⟩)) <|
  gze (fun v w' => ∃ q : Nat, v = .int .i64 q ∧ (q : Int) < 12 ∧ Nm w' g a c L ((((N + 1) + 1) + 1) + 1) ∧ But g V3 w') ((nx hns3 HL.out (by have := HNN.out; omega) 12 (by first | decide | omega) (by first | decide | omega)).mono fun e w' z => by obtain ⟨⟨q, h1, h2, -⟩, h3, h4⟩ := z; exact ⟨_, h1, q, rfl, h2, h3, h4⟩) (fun vv V4 hq => ?_)
 obtain ⟨v4, rfl, hv4, hns4, hbt4⟩ := hq
 have hC4 := hC3.trans hbt4
 simp only [pu]
 refine gz1 (.pointer (some ⟨g, 0, none⟩)) <|
  gze (fun v w' => ∃ q : Nat, v = .int .i64 q ∧ (q : Int) < 4 ∧ Nm w' g a c L (((((N + 1) + 1) + 1) + 1) + 1) ∧ But g V4 w') ((nx hns4 HL.out (by have := HNN.out; omega) 4 (by first | decide | omega) (by first | decide | omega)).mono fun e w' z => by obtain ⟨⟨q, h1, h2, -⟩, h3, h4⟩ := z; exact ⟨_, h1, q, rfl, h2, h3, h4⟩) (fun vv V5 hq => ?_)
 obtain ⟨v5, rfl, hv5, hns5, hbt5⟩ := hq
 have hC5 := hC4.trans hbt5
 simp only [pu]
 refine gz1 (.pointer (some ⟨g, 0, none⟩)) <|
  gze (fun v w' => ∃ q : Nat, v = .int .i64 q ∧ (q : Int) < 3 ∧ Nm w' g a c L ((((((N + 1) + 1) + 1) + 1) + 1) + 1) ∧ But g V5 w') ((nx hns5 HL.out (by have := HNN.out; omega) 3 (by first | decide | omega) (by first | decide | omega)).mono fun e w' z => by obtain ⟨⟨q, h1, h2, -⟩, h3, h4⟩ := z; exact ⟨_, h1, q, rfl, h2, h3, h4⟩) (fun vv V6 hq => ?_)
 obtain ⟨v6, rfl, hv6, hns6, hbt6⟩ := hq
 have hC6 := hC5.trans hbt6
 simp only [pu]
 refine gz1 (.pointer (some ⟨g, 0, none⟩)) <|
  gze (fun v w' => ∃ q : Nat, v = .int .i64 q ∧ (q : Int) < 20 ∧ Nm w' g a c L (((((((N + 1) + 1) + 1) + 1) + 1) + 1) + 1) ∧ But g V6 w') ((nx hns6 HL.out (by have := HNN.out; omega) 20 (by first | decide | omega) (by first | decide | omega)).mono fun e w' z => by obtain ⟨⟨q, h1, h2, -⟩, h3, h4⟩ := z; exact ⟨_, h1, q, rfl, h2, h3, h4⟩) (fun vv V7 hq => ?_)
 obtain ⟨v7, rfl, hv7, hns7, hbt7⟩ := hq
 have hC7 := hC6.trans hbt7
 have hmul : v6 * v7 ≤ 1000000 := Nat.le_trans (Nat.mul_le_mul (show v6 ≤ 3 by omega) (show v7 ≤ 20 by omega)) (by omega)
 simp only [pu]
 refine gzw (.int .i64 (v6 * v7 : Nat)) (mul_is rfl v6 v7 hmul) <| gz1 (.pointer (some ⟨g, 0, none⟩)) <|
  gze (fun v w' => ∃ q : Nat, v = .int .i64 q ∧ (q : Int) < 3 ∧ Nm w' g a c L ((((((((N + 1) + 1) + 1) + 1) + 1) + 1) + 1) + 1) ∧ But g V7 w') ((nx hns7 HL.out (by have := HNN.out; omega) 3 (by first | decide | omega) (by first | decide | omega)).mono fun e w' z => by obtain ⟨⟨q, h1, h2, -⟩, h3, h4⟩ := z; exact ⟨_, h1, q, rfl, h2, h3, h4⟩) (fun vv V8 hq => ?_)
 obtain ⟨v8, rfl, hv8, hns8, hbt8⟩ := hq
 have hC8 := hC7.trans hbt8
 obtain ⟨q8, hq9⟩ : ∃ q8 : Int, q8 = (if v8 = 0 then 1 else 0) := ⟨_, rfl⟩
 have hq01 : q8 = 0 ∨ q8 = 1 := by rw [hq9]; split; exact .inr rfl; exact .inl rfl
 have hq8 : decide ((v8 : Int) = 0) = decide (q8 = 1) := by rw [hq9]; by_cases e : v8 = 0; rw [if_pos e]; exact decide_eq_decide.2 ⟨fun _ => rfl, fun _ => by omega⟩; rw [if_neg e]; exact decide_eq_decide.2 ⟨fun _ => by omega, fun q => by omega⟩
 clear hq9
 simp only [pu]
 refine gzw (.bool (decide (q8 = 1))) (eql_n rfl v8 0 hq8) <| gz1 (.pointer (some ⟨g, 0, none⟩)) <|
  gze (fun v w' => ∃ q : Nat, v = .int .i64 q ∧ (q : Int) < 400 ∧ Nm w' g a c L (((((((((N + 1) + 1) + 1) + 1) + 1) + 1) + 1) + 1) + 1) ∧ But g V8 w') ((nx hns8 HL.out (by have := HNN.out; omega) 400 (by first | decide | omega) (by first | decide | omega)).mono fun e w' z => by obtain ⟨⟨q, h1, h2, -⟩, h3, h4⟩ := z; exact ⟨_, h1, q, rfl, h2, h3, h4⟩) (fun vv V9 hq => ?_)
 obtain ⟨v9, rfl, hv9, hns9, hbt9⟩ := hq
 have hC9 := hC8.trans hbt9
 simp only [pu]
 refine gzw (.int .i64 (100 + v9)) (add_i rfl 100 v9 (by omega)) <| gz1 (.pointer (some ⟨g, 0, none⟩)) <|
  gze (fun v w' => ∃ q : Nat, v = .int .i64 q ∧ (q : Int) < 3 ∧ Nm w' g a c L ((((((((((N + 1) + 1) + 1) + 1) + 1) + 1) + 1) + 1) + 1) + 1) ∧ But g V9 w') ((nx hns9 HL.out (by have := HNN.out; omega) 3 (by first | decide | omega) (by first | decide | omega)).mono fun e w' z => by obtain ⟨⟨q, h1, h2, -⟩, h3, h4⟩ := z; exact ⟨_, h1, q, rfl, h2, h3, h4⟩) (fun vv V10 hq => ?_)
 obtain ⟨v10, rfl, hv10, hns10, hbt10⟩ := hq
 have hC10 := hC9.trans hbt10
 obtain ⟨V11, hst11, hb11, hX3⟩ := new_bx (c := #[.int .i64 0, .int .i64 0, .int .i64 0, .int .i64 0, .int .i64 0, .int .i64 0, .bool false, .int .i64 0, .int .i64 0, .int .u64 0, .int .i64 0, .int .i64 0]) (c' := #[.int .i64 (1 + v1), .int .i64 (250 + v2), .int .i64 (60 + v3), .int .i64 (v4), .int .i64 (v5), .int .i64 ((v6 * v7 : Nat)), .bool (decide (q8 = 1)), .int .i64 (100 + v9), .int .i64 (-1), .int .u64 (v10), .int .i64 (0), .int .i64 (1)]) (ty := 24) V10 rfl (by kernel_rfl) (by kernel_rfl)
 simp only [pu]
 refine gzv (.int .u64 v10) (conv_iu rfl v10 (by omega) (by omega) (by kernel_rfl) _) <|
  gz1 (.agg #[.int .i64 (1 + v1), .int .i64 (250 + v2), .int .i64 (60 + v3), .int .i64 v4, .int .i64 v5, .int .i64 (v6 * v7 : Nat), .bool (decide (q8 = 1)), .int .i64 (100 + v9), .int .i64 (-1), .int .u64 v10, .int .i64 0, .int .i64 1]) ?_
 simp only [pu]
 refine run_to rfl (some 3) rfl (.pointer (some ⟨V10.heap.size, 0, none⟩)) (V10.alloc (.cells #[.int .i64 0, .int .i64 0, .int .i64 0, .int .i64 0, .int .i64 0, .int .i64 0, .bool false, .int .i64 0, .int .i64 0, .int .u64 0, .int .i64 0, .int .i64 0] 24)) (by kernel_rfl) ?_
 simp only [pu]
 refine gzs rfl (hst11) <| wn ?_
 have hbt11 : But g V10 V11 := But.of_below hb11 (Nat.le_of_lt hns10.lt)
 have hX2b := (hX2.but hC10 (by omega)).below (hX2.but hC10 (by omega)).lt hb11
 have hns11 := hns10.below hb11
 have hC11 := hC10.trans hbt11
 have hg3l : g2 < V10.heap.size := (hX2.but hC10 (by omega)).lt
 obtain ⟨g3, hg3⟩ : ∃ g3, V10.heap.size = g3 := ⟨_, rfl⟩
 rw [hg3] at hX3 hg3l
 simp only [hg3]
 have HP : Hid (v6 * v7 ≤ 60) := Lib.hid (Nat.mul_le_mul (show v6 ≤ 3 by omega) (show v7 ≤ 20 by omega))
 have HV : Hid (v1 < 7 ∧ v2 < 400 ∧ v3 < 140 ∧ v4 < 12 ∧ v5 < 4 ∧ v9 < 400 ∧ v10 < 3) := Lib.hid (by omega)
 have HQ := Lib.hid hq01
 generalize v6 * v7 = p7 at *
 clear hst11 hb11 hX2 hbt1 hbt2 hbt3 hbt4 hbt5 hbt6 hbt7 hbt8 hbt9 hbt10 hbt11 hC0 hC1 hC2 hC3 hC4 hC5 hC6 hC7 hC8 hC9 hC10 hns0 hns1 hns2 hns3 hns4 hns5 hns6 hns7 hns8 hns9 hns10 hg3 hv1 hv2 hv3 hv4 hv5 hv6 hv7 hv8 hv9 hv10 hmul hq01 hq8
 have hA11 := HB.out.trans hC11
 clear hC11 HB
 have HG23 : Hid (g < g2 ∧ g2 < g3 ∧ w.heap.size ≤ g3) := Lib.hid (by have := HG2.out; omega)
 go_upto_region 2 with fail
 refine wl <| gz1 (.pointer (some ⟨g, 0, none⟩)) <|
  gze (fun v w' => ∃ q : Nat, v = .int .i64 q ∧ (q : Int) < 3 ∧ Nm w' g a c L (((((((((((N + 1) + 1) + 1) + 1) + 1) + 1) + 1) + 1) + 1) + 1) + 1) ∧ But g V11 w') ((nx hns11 HL.out (by have := HNN.out; omega) 3 (by first | decide | omega) (by first | decide | omega)).mono fun e w' z => by obtain ⟨⟨q, h1, h2, -⟩, h3, h4⟩ := z; exact ⟨_, h1, q, rfl, h2, h3, h4⟩) (fun vv V20 hq => ?_)
 obtain ⟨v20, rfl, hv20, hns20, hbt20⟩ := hq
 have hX3_20 := hX3.but hbt20 (by have := HG23.out; omega)
 have hX2_20 := hX2b.but hbt20 (by have := HG23.out; omega)
 have hA20 := hA11.trans hbt20
 have HV20 : Hid (v20 < 3) := Lib.hid (by omega)
 clear hv20 hbt20
 simp only [pu]
 by_cases h20 : v20 = 0
 ·skip
  refine gzb (eql_nn rfl v20 0 (decide_eq_true h20)) <| wn ?_
  simp only [pu]
  clear h20
  go_upto_region 3 with fail
  refine wl <| gz1 (.pointer (some ⟨g, 0, none⟩)) <|
   gze (fun v w' => ∃ q : Nat, v = .int .i64 q ∧ (q : Int) < 900 ∧ Nm w' g a c L ((((((((((((N + 1) + 1) + 1) + 1) + 1) + 1) + 1) + 1) + 1) + 1) + 1) + 1) ∧ But g V20 w') ((nx hns20 HL.out (by have := HNN.out; omega) 900 (by first | decide | omega) (by first | decide | omega)).mono fun e w' z => by obtain ⟨⟨q, h1, h2, -⟩, h3, h4⟩ := z; exact ⟨_, h1, q, rfl, h2, h3, h4⟩) (fun vv V21 hq => ?_)
  obtain ⟨v21, rfl, hv21, hns21, hbt21⟩ := hq
  have hX3_21 := hX3_20.but hbt21 (by have := HG23.out; omega)
  have hX2_21 := hX2_20.but hbt21 (by have := HG23.out; omega)
  have hA21 := hA20.trans hbt21
  have HV21 : Hid (v21 < 900) := Lib.hid (by omega)
  clear hv21 hbt21
  obtain ⟨V22, hst22, hX3_22, hbt22⟩ := st_fld (i := 8) (v := .int .i64 (200 + v21)) (ty := 3) #[.int .i64 (1 + v1), .int .i64 (250 + v2), .int .i64 (60 + v3), .int .i64 (v4), .int .i64 (v5), .int .i64 (p7), .bool (decide (q8 = 1)), .int .i64 (100 + v9), .int .i64 (200 + v21), .int .u64 (v10), .int .i64 (0), .int .i64 (1)] hX3_21 (by simp) rfl rfl (by kernel_rfl)
  have hX2_22 := hX2_21.but hbt22 (by have := HG23.out; omega)
  have hns22 := hns21.low hbt22.1 (by have := HG23.out; omega)
  have hA22 := but_st hA21 hbt22 HG23.out.2.2 (by have := HG23.out; omega)
  simp only [pu]
  refine gzw (.int .i64 (200 + v21)) (add_i rfl 200 v21 (by have := HV21.out; omega)) <| gz1 (.pointer (some ⟨g3, 8, none⟩)) <| gzs rfl (hst22) <| wn ?_
  simp only [pu]
  clear hst22 hbt22
  go_upto_region 4 with fail
  refine wl <| gz1 (.pointer (some ⟨g, 0, none⟩)) <|
   gze (fun v w' => ∃ q : Nat, v = .int .i64 q ∧ (q : Int) < 6 ∧ Nm w' g a c L (((((((((((((N + 1) + 1) + 1) + 1) + 1) + 1) + 1) + 1) + 1) + 1) + 1) + 1) + 1) ∧ But g V22 w') ((nx hns22 HL.out (by have := HNN.out; omega) 6 (by first | decide | omega) (by first | decide | omega)).mono fun e w' z => by obtain ⟨⟨q, h1, h2, -⟩, h3, h4⟩ := z; exact ⟨_, h1, q, rfl, h2, h3, h4⟩) (fun vv V23 hq => ?_)
  obtain ⟨v23, rfl, hv23, hns23, hbt23⟩ := hq
  have hX3_23 := hX3_22.but hbt23 (by have := HG23.out; omega)
  have hX2_23 := hX2_22.but hbt23 (by have := HG23.out; omega)
  have hA23 := hA22.trans hbt23
  have HV23 : Hid (v23 < 6) := Lib.hid (by omega)
  clear hv23 hbt23
  simp only [pu]
  by_cases h23 : v23 = 0
  ·skip
   refine gzb (eql_nn rfl v23 0 (decide_eq_true h23)) <| wn ?_
   simp only [pu]
   clear h23
   go_upto_region 5 with fail
   refine wl <| gz1 (.pointer (some ⟨g, 0, none⟩)) <|
    gze (fun v w' => ∃ q : Nat, v = .int .i64 q ∧ (q : Int) < 40 ∧ Nm w' g a c L ((((((((((((((N + 1) + 1) + 1) + 1) + 1) + 1) + 1) + 1) + 1) + 1) + 1) + 1) + 1) + 1) ∧ But g V23 w') ((nx hns23 HL.out (by have := HNN.out; omega) 40 (by first | decide | omega) (by first | decide | omega)).mono fun e w' z => by obtain ⟨⟨q, h1, h2, -⟩, h3, h4⟩ := z; exact ⟨_, h1, q, rfl, h2, h3, h4⟩) (fun vv V24 hq => ?_)
   obtain ⟨v24, rfl, hv24, hns24, hbt24⟩ := hq
   have hX3_24 := hX3_23.but hbt24 (by have := HG23.out; omega)
   have hX2_24 := hX2_23.but hbt24 (by have := HG23.out; omega)
   have hA24 := hA23.trans hbt24
   have HV24 : Hid (v24 < 40) := Lib.hid (by omega)
   clear hv24 hbt24
   obtain ⟨V25, hst25, hX3_25, hbt25⟩ := st_fld (i := 2) (v := .int .i64 (40 + v24)) (ty := 3) #[.int .i64 (1 + v1), .int .i64 (250 + v2), .int .i64 (40 + v24), .int .i64 (v4), .int .i64 (v5), .int .i64 (p7), .bool (decide (q8 = 1)), .int .i64 (100 + v9), .int .i64 (200 + v21), .int .u64 (v10), .int .i64 (0), .int .i64 (1)] hX3_24 (by simp) rfl rfl (by kernel_rfl)
   have hX2_25 := hX2_24.but hbt25 (by have := HG23.out; omega)
   have hns25 := hns24.low hbt25.1 (by have := HG23.out; omega)
   have hA25 := but_st hA24 hbt25 HG23.out.2.2 (by have := HG23.out; omega)
   simp only [pu]
   refine gzw (.int .i64 (40 + v24)) (add_i rfl 40 v24 (by have := HV24.out; omega)) <| gz1 (.pointer (some ⟨g3, 2, none⟩)) <| gzs rfl (hst25) <| wn ?_
   simp only [pu]
   clear hst25 hbt25
   obtain ⟨V50, hst50, hY2, hbt50⟩ := st_all (cs' := #[.int .i64 (1 + v1), .int .i64 (250 + v2), .int .i64 (40 + v24), .int .i64 (v4), .int .i64 (v5), .int .i64 (p7), .bool (decide (q8 = 1)), .int .i64 (100 + v9), .int .i64 (200 + v21), .int .u64 (v10), .int .i64 (0), .int .i64 (1)]) (ty := 24) hX2_25 rfl (by kernel_rfl) (by kernel_rfl)
   have hld : (Instr.loadAt 24 (.pointer (some ⟨g3, 0, none⟩))).run Tryd.prog V25 = .ok (.agg (cfA [1 + v1, 250 + v2, 40 + v24, v4, v5, p7, q8, 100 + v9, 200 + v21, v10, 0, 1])) V25 := load_C (c := [1 + v1, 250 + v2, 40 + v24, v4, v5, p7, q8, 100 + v9, 200 + v21, v10, 0, 1]) hX3_25
   have hld2 := Lib.hid (load_C (c := [1 + v1, 250 + v2, 40 + v24, v4, v5, p7, q8, 100 + v9, 200 + v21, v10, 0, 1]) hY2)
   have HMD : Hid (MadeC [1 + v1, 250 + v2, 40 + v24, v4, v5, p7, q8, 100 + v9, 200 + v21, v10, 0, 1]) := Lib.hid (made_ok (1 + v1) (250 + v2) (40 + v24) (v4) (v5) (p7) (q8) (100 + v9) (200 + v21) (v10) (0) (1) (by have := HP.out; have := HV.out; have := HQ.out; have := HV21.out; have := HV24.out; omega))
   have hnsE := hns25.low hbt50.1 (by have := HG23.out; omega)
   have hbE := but_st hA25 hbt50 HG2.out (by have := HG23.out; omega)
   have HE : Hid (MkO w g a c L N (.returned (.agg (cfA [1 + v1, 250 + v2, 40 + v24, v4, v5, p7, q8, 100 + v9, 200 + v21, v10, 0, 1]))) V50) := Lib.hid ⟨_, _, rfl, HMD.out, by omega, hnsE, hbE⟩
   go_upto_region 6 with fail
   refine wl <| gzl rfl ⟨g3, 0, none⟩ (.agg #[.int .i64 (1 + v1), .int .i64 (250 + v2), .int .i64 (40 + v24), .int .i64 (v4), .int .i64 (v5), .int .i64 (p7), .bool (decide (q8 = 1)), .int .i64 (100 + v9), .int .i64 (200 + v21), .int .u64 (v10), .int .i64 (0), .int .i64 (1)]) (hld) <|
    gzs rfl (hst50) <| wn ?_
   simp only [pu]
   clear hst50 hbt50 hld hY2 hnsE hbE
   go_wp2_with fail
   exact bodyPost_ret (results_1c (p := 2) rfl (by kernel_rfl) hld2.out) rfl HE.out
  ·skip
   refine gzb (eql_nn rfl v23 0 (decide_eq_false h23)) <| wn ?_
   simp only [pu]
   clear h23
   obtain ⟨V50, hst50, hY2, hbt50⟩ := st_all (cs' := #[.int .i64 (1 + v1), .int .i64 (250 + v2), .int .i64 (60 + v3), .int .i64 (v4), .int .i64 (v5), .int .i64 (p7), .bool (decide (q8 = 1)), .int .i64 (100 + v9), .int .i64 (200 + v21), .int .u64 (v10), .int .i64 (0), .int .i64 (1)]) (ty := 24) hX2_23 rfl (by kernel_rfl) (by kernel_rfl)
   have hld : (Instr.loadAt 24 (.pointer (some ⟨g3, 0, none⟩))).run Tryd.prog V23 = .ok (.agg (cfA [1 + v1, 250 + v2, 60 + v3, v4, v5, p7, q8, 100 + v9, 200 + v21, v10, 0, 1])) V23 := load_C (c := [1 + v1, 250 + v2, 60 + v3, v4, v5, p7, q8, 100 + v9, 200 + v21, v10, 0, 1]) hX3_23
   have hld2 := Lib.hid (load_C (c := [1 + v1, 250 + v2, 60 + v3, v4, v5, p7, q8, 100 + v9, 200 + v21, v10, 0, 1]) hY2)
   have HMD : Hid (MadeC [1 + v1, 250 + v2, 60 + v3, v4, v5, p7, q8, 100 + v9, 200 + v21, v10, 0, 1]) := Lib.hid (made_ok (1 + v1) (250 + v2) (60 + v3) (v4) (v5) (p7) (q8) (100 + v9) (200 + v21) (v10) (0) (1) (by have := HP.out; have := HV.out; have := HQ.out; have := HV21.out; omega))
   have hnsE := hns23.low hbt50.1 (by have := HG23.out; omega)
   have hbE := but_st hA23 hbt50 HG2.out (by have := HG23.out; omega)
   have HE : Hid (MkO w g a c L N (.returned (.agg (cfA [1 + v1, 250 + v2, 60 + v3, v4, v5, p7, q8, 100 + v9, 200 + v21, v10, 0, 1]))) V50) := Lib.hid ⟨_, _, rfl, HMD.out, by omega, hnsE, hbE⟩
   go_upto_region 6 with fail
   refine wl <| gzl rfl ⟨g3, 0, none⟩ (.agg #[.int .i64 (1 + v1), .int .i64 (250 + v2), .int .i64 (60 + v3), .int .i64 (v4), .int .i64 (v5), .int .i64 (p7), .bool (decide (q8 = 1)), .int .i64 (100 + v9), .int .i64 (200 + v21), .int .u64 (v10), .int .i64 (0), .int .i64 (1)]) (hld) <|
    gzs rfl (hst50) <| wn ?_
   simp only [pu]
   clear hst50 hbt50 hld hY2 hnsE hbE
   go_wp2_with fail
   exact bodyPost_ret (results_1c (p := 2) rfl (by kernel_rfl) hld2.out) rfl HE.out
 ·skip
  refine gzb (eql_nn rfl v20 0 (decide_eq_false h20)) <| wn ?_
  simp only [pu]
  clear h20
  go_upto_region 4 with fail
  refine wl <| gz1 (.pointer (some ⟨g, 0, none⟩)) <|
   gze (fun v w' => ∃ q : Nat, v = .int .i64 q ∧ (q : Int) < 6 ∧ Nm w' g a c L ((((((((((((N + 1) + 1) + 1) + 1) + 1) + 1) + 1) + 1) + 1) + 1) + 1) + 1) ∧ But g V20 w') ((nx hns20 HL.out (by have := HNN.out; omega) 6 (by first | decide | omega) (by first | decide | omega)).mono fun e w' z => by obtain ⟨⟨q, h1, h2, -⟩, h3, h4⟩ := z; exact ⟨_, h1, q, rfl, h2, h3, h4⟩) (fun vv V26 hq => ?_)
  obtain ⟨v26, rfl, hv26, hns26, hbt26⟩ := hq
  have hX3_26 := hX3_20.but hbt26 (by have := HG23.out; omega)
  have hX2_26 := hX2_20.but hbt26 (by have := HG23.out; omega)
  have hA26 := hA20.trans hbt26
  have HV26 : Hid (v26 < 6) := Lib.hid (by omega)
  clear hv26 hbt26
  simp only [pu]
  by_cases h26 : v26 = 0
  ·skip
   refine gzb (eql_nn rfl v26 0 (decide_eq_true h26)) <| wn ?_
   simp only [pu]
   clear h26
   go_upto_region 5 with fail
   refine wl <| gz1 (.pointer (some ⟨g, 0, none⟩)) <|
    gze (fun v w' => ∃ q : Nat, v = .int .i64 q ∧ (q : Int) < 40 ∧ Nm w' g a c L (((((((((((((N + 1) + 1) + 1) + 1) + 1) + 1) + 1) + 1) + 1) + 1) + 1) + 1) + 1) ∧ But g V26 w') ((nx hns26 HL.out (by have := HNN.out; omega) 40 (by first | decide | omega) (by first | decide | omega)).mono fun e w' z => by obtain ⟨⟨q, h1, h2, -⟩, h3, h4⟩ := z; exact ⟨_, h1, q, rfl, h2, h3, h4⟩) (fun vv V27 hq => ?_)
   obtain ⟨v27, rfl, hv27, hns27, hbt27⟩ := hq
   have hX3_27 := hX3_26.but hbt27 (by have := HG23.out; omega)
   have hX2_27 := hX2_26.but hbt27 (by have := HG23.out; omega)
   have hA27 := hA26.trans hbt27
   have HV27 : Hid (v27 < 40) := Lib.hid (by omega)
   clear hv27 hbt27
   obtain ⟨V28, hst28, hX3_28, hbt28⟩ := st_fld (i := 2) (v := .int .i64 (40 + v27)) (ty := 3) #[.int .i64 (1 + v1), .int .i64 (250 + v2), .int .i64 (40 + v27), .int .i64 (v4), .int .i64 (v5), .int .i64 (p7), .bool (decide (q8 = 1)), .int .i64 (100 + v9), .int .i64 (-1), .int .u64 (v10), .int .i64 (0), .int .i64 (1)] hX3_27 (by simp) rfl rfl (by kernel_rfl)
   have hX2_28 := hX2_27.but hbt28 (by have := HG23.out; omega)
   have hns28 := hns27.low hbt28.1 (by have := HG23.out; omega)
   have hA28 := but_st hA27 hbt28 HG23.out.2.2 (by have := HG23.out; omega)
   simp only [pu]
   refine gzw (.int .i64 (40 + v27)) (add_i rfl 40 v27 (by have := HV27.out; omega)) <| gz1 (.pointer (some ⟨g3, 2, none⟩)) <| gzs rfl (hst28) <| wn ?_
   simp only [pu]
   clear hst28 hbt28
   obtain ⟨V50, hst50, hY2, hbt50⟩ := st_all (cs' := #[.int .i64 (1 + v1), .int .i64 (250 + v2), .int .i64 (40 + v27), .int .i64 (v4), .int .i64 (v5), .int .i64 (p7), .bool (decide (q8 = 1)), .int .i64 (100 + v9), .int .i64 (-1), .int .u64 (v10), .int .i64 (0), .int .i64 (1)]) (ty := 24) hX2_28 rfl (by kernel_rfl) (by kernel_rfl)
   have hld : (Instr.loadAt 24 (.pointer (some ⟨g3, 0, none⟩))).run Tryd.prog V28 = .ok (.agg (cfA [1 + v1, 250 + v2, 40 + v27, v4, v5, p7, q8, 100 + v9, -1, v10, 0, 1])) V28 := load_C (c := [1 + v1, 250 + v2, 40 + v27, v4, v5, p7, q8, 100 + v9, -1, v10, 0, 1]) hX3_28
   have hld2 := Lib.hid (load_C (c := [1 + v1, 250 + v2, 40 + v27, v4, v5, p7, q8, 100 + v9, -1, v10, 0, 1]) hY2)
   have HMD : Hid (MadeC [1 + v1, 250 + v2, 40 + v27, v4, v5, p7, q8, 100 + v9, -1, v10, 0, 1]) := Lib.hid (made_ok (1 + v1) (250 + v2) (40 + v27) (v4) (v5) (p7) (q8) (100 + v9) (-1) (v10) (0) (1) (by have := HP.out; have := HV.out; have := HQ.out; have := HV27.out; omega))
   have hnsE := hns28.low hbt50.1 (by have := HG23.out; omega)
   have hbE := but_st hA28 hbt50 HG2.out (by have := HG23.out; omega)
   have HE : Hid (MkO w g a c L N (.returned (.agg (cfA [1 + v1, 250 + v2, 40 + v27, v4, v5, p7, q8, 100 + v9, -1, v10, 0, 1]))) V50) := Lib.hid ⟨_, _, rfl, HMD.out, by omega, hnsE, hbE⟩
   go_upto_region 6 with fail
   refine wl <| gzl rfl ⟨g3, 0, none⟩ (.agg #[.int .i64 (1 + v1), .int .i64 (250 + v2), .int .i64 (40 + v27), .int .i64 (v4), .int .i64 (v5), .int .i64 (p7), .bool (decide (q8 = 1)), .int .i64 (100 + v9), .int .i64 (-1), .int .u64 (v10), .int .i64 (0), .int .i64 (1)]) (hld) <|
    gzs rfl (hst50) <| wn ?_
   simp only [pu]
   clear hst50 hbt50 hld hY2 hnsE hbE
   go_wp2_with fail
   exact bodyPost_ret (results_1c (p := 2) rfl (by kernel_rfl) hld2.out) rfl HE.out
  ·skip
   refine gzb (eql_nn rfl v26 0 (decide_eq_false h26)) <| wn ?_
   simp only [pu]
   clear h26
   obtain ⟨V50, hst50, hY2, hbt50⟩ := st_all (cs' := #[.int .i64 (1 + v1), .int .i64 (250 + v2), .int .i64 (60 + v3), .int .i64 (v4), .int .i64 (v5), .int .i64 (p7), .bool (decide (q8 = 1)), .int .i64 (100 + v9), .int .i64 (-1), .int .u64 (v10), .int .i64 (0), .int .i64 (1)]) (ty := 24) hX2_26 rfl (by kernel_rfl) (by kernel_rfl)
   have hld : (Instr.loadAt 24 (.pointer (some ⟨g3, 0, none⟩))).run Tryd.prog V26 = .ok (.agg (cfA [1 + v1, 250 + v2, 60 + v3, v4, v5, p7, q8, 100 + v9, -1, v10, 0, 1])) V26 := load_C (c := [1 + v1, 250 + v2, 60 + v3, v4, v5, p7, q8, 100 + v9, -1, v10, 0, 1]) hX3_26
   have hld2 := Lib.hid (load_C (c := [1 + v1, 250 + v2, 60 + v3, v4, v5, p7, q8, 100 + v9, -1, v10, 0, 1]) hY2)
   have HMD : Hid (MadeC [1 + v1, 250 + v2, 60 + v3, v4, v5, p7, q8, 100 + v9, -1, v10, 0, 1]) := Lib.hid (made_ok (1 + v1) (250 + v2) (60 + v3) (v4) (v5) (p7) (q8) (100 + v9) (-1) (v10) (0) (1) (by have := HP.out; have := HV.out; have := HQ.out; omega))
   have hnsE := hns26.low hbt50.1 (by have := HG23.out; omega)
   have hbE := but_st hA26 hbt50 HG2.out (by have := HG23.out; omega)
   have HE : Hid (MkO w g a c L N (.returned (.agg (cfA [1 + v1, 250 + v2, 60 + v3, v4, v5, p7, q8, 100 + v9, -1, v10, 0, 1]))) V50) := Lib.hid ⟨_, _, rfl, HMD.out, by omega, hnsE, hbE⟩
   go_upto_region 6 with fail
   refine wl <| gzl rfl ⟨g3, 0, none⟩ (.agg #[.int .i64 (1 + v1), .int .i64 (250 + v2), .int .i64 (60 + v3), .int .i64 (v4), .int .i64 (v5), .int .i64 (p7), .bool (decide (q8 = 1)), .int .i64 (100 + v9), .int .i64 (-1), .int .u64 (v10), .int .i64 (0), .int .i64 (1)]) (hld) <|
    gzs rfl (hst50) <| wn ?_
   simp only [pu]
   clear hst50 hbt50 hld hY2 hnsE hbE
   go_wp2_with fail
   exact bodyPost_ret (results_1c (p := 2) rfl (by kernel_rfl) hld2.out) rfl HE.out
end Go.Proofs.YtplfineaomneiaaDoor
