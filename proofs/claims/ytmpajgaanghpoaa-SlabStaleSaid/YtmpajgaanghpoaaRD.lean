/-
 The reference's AddEntry: contract.
-/
import Derived.Test.YtmpajgaanghpoaaRC
namespace Go.Proofs.Ytmpajgaanghpoaa
attribute [local irreducible] wpList wpQuiet
open Go.RowKit
set_option maxRecDepth 100000
set_option linter.unusedSimpArgs false
set_option linter.unusedVariables false

/-- A region whose worlds are known: up to three steps that make memory, one after another; a variable that is assigned last. -/
structure KW (b1 b2 b3 p q r : Bool) (W0 W1 W2 W3 V : World) : Prop where
 o1 : b2 = true → b1 = true
 o2 : b3 = true → b2 = true
 o3 : r = true → p = true
 o4 : r = true → q = true
 is : V = cond b3 W3 (cond b2 W2 (cond b1 W1 W0))
section
variable {b1 b2 b3 p q r : Bool} {W0 W1 W2 W3 V : World}
theorem ffw {a b : Bool} (h : a = true → b = true) (hb : b = false) : a = false := by
 cases a with
 | false => rfl
 | true => rw [h rfl] at hb; cases hb
theorem KW.start : KW false false false false false false W0 W1 W2 W3 W0 := ⟨(fun e => nomatch e), (fun e => nomatch e), (fun e => nomatch e), (fun e => nomatch e), rfl⟩
theorem KW.w0 (h : KW false b2 b3 p q r W0 W1 W2 W3 V) : b2 = false ∧ b3 = false ∧ V = W0 := by
 obtain rfl := ffw h.o1 rfl
 obtain rfl := ffw h.o2 rfl
 exact ⟨rfl, rfl, h.is⟩
theorem KW.s1 (h : KW false false false p q r W0 W1 W2 W3 V) : KW true false false p q r W0 W1 W2 W3 W1 := ⟨fun _ => rfl, h.o2, h.o3, h.o4, rfl⟩
theorem KW.w1 (h : KW true false b3 p q r W0 W1 W2 W3 V) : b3 = false ∧ V = W1 := by
 obtain rfl := ffw h.o2 rfl
 exact ⟨rfl, h.is⟩
theorem KW.s2 (h : KW true false false p q r W0 W1 W2 W3 V) : KW true true false p q r W0 W1 W2 W3 W2 := ⟨fun _ => rfl, fun _ => rfl, h.o3, h.o4, rfl⟩
theorem KW.w2 (h : KW b1 true false p q r W0 W1 W2 W3 V) : V = W2 := h.is
theorem KW.s3 (h : KW b1 true false p q r W0 W1 W2 W3 V) : KW b1 true true p q r W0 W1 W2 W3 W3 := ⟨h.o1, fun _ => rfl, h.o3, h.o4, rfl⟩
theorem KW.p0 (h : KW b1 b2 b3 false q r W0 W1 W2 W3 V) : r = false := ffw h.o3 rfl
theorem KW.q0 (h : KW b1 b2 b3 p false r W0 W1 W2 W3 V) : r = false := ffw h.o4 rfl
theorem KW.sp (h : KW b1 b2 b3 false q false W0 W1 W2 W3 V) : KW b1 b2 b3 true q false W0 W1 W2 W3 V := ⟨h.o1, h.o2, (fun e => nomatch e), (fun e => nomatch e), h.is⟩
theorem KW.sq (h : KW b1 b2 b3 p false false W0 W1 W2 W3 V) : KW b1 b2 b3 p true false W0 W1 W2 W3 V := ⟨h.o1, h.o2, (fun e => nomatch e), (fun e => nomatch e), h.is⟩
theorem KW.sr (h : KW b1 b2 b3 true true false W0 W1 W2 W3 V) : KW b1 b2 b3 true true true W0 W1 W2 W3 V := ⟨h.o1, h.o2, fun _ => rfl, fun _ => rfl, h.is⟩
theorem KW.bel {B : Nat} {W : World} (h : KW b1 b2 b3 p q r W0 W1 W2 W3 V) (h0 : Below B W W0) (h1 : Below B W W1) (h2 : Below B W W2) (h3 : Below B W W3) : Below B W V := by
 rw [h.is]
 cases b3 <;> cases b2 <;> cases b1 <;> assumption
end
/-- Two boxes are written, in any order. -/
structure K11 (g4 g5 t4 t5 : Nat) (z4 c4 z5 c5 : Array Value) (b1 b2 : Bool) (W V : World) : Prop where
 but : ∀ k, k < W.heap.size → k ≠ g4 → k ≠ g5 → V.heap[k]? = W.heap[k]?
 bel : Below (min g4 g5) W V
 x4 : Bx V g4 (cond b1 c4 z4) t4
 x5 : Bx V g5 (cond b2 c5 z5) t5
section
variable {g4 g5 t4 t5 : Nat} {z4 c4 z5 c5 : Array Value} {b1 b2 : Bool} {W V : World}
theorem K11.start (h4 : Bx W g4 z4 t4) (h5 : Bx W g5 z5 t5) : K11 g4 g5 t4 t5 z4 c4 z5 c5 false false W { W with drawn := W.drawn + 1 } :=
 ⟨fun _ _ _ _ => rfl, (Below.refl _ W).drew, h4.below h4.lt (Below.refl _ W).drew, h5.below h5.lt (Below.refl _ W).drew⟩
theorem K11.s4 (h : K11 g4 g5 t4 t5 z4 c4 z5 c5 false b2 W V) (hn : g4 ≠ g5) (hz : z4.size = c4.size) (h1 : c4.all (·.oneCell') = true) (hs : (Try.prog.info? t4).map (·.size) = some c4.size) : ∃ V2, (Instr.storeAt t4 (.pointer (some ⟨g4, 0, none⟩)) (.agg c4)).run Try.prog V = .ok () V2 ∧ K11 g4 g5 t4 t5 z4 c4 z5 c5 true b2 W V2 := by
 obtain ⟨V2, hst, hX, hbt⟩ := st_all (cs' := c4) (ty := t4) h.x4 hz h1 hs
 exact ⟨V2, hst, fun k hk e4 e5 => (hbt.2 k (Nat.lt_of_lt_of_le hk h.bel.size) e4).trans (h.but k hk e4 e5), h.bel.trans (hbt.1.mono (Nat.min_le_left _ _)), hX, h.x5.but hbt (Ne.symm hn)⟩
theorem K11.s5 (h : K11 g4 g5 t4 t5 z4 c4 z5 c5 b1 false W V) (hn : g4 ≠ g5) (hz : z5.size = c5.size) (h1 : c5.all (·.oneCell') = true) (hs : (Try.prog.info? t5).map (·.size) = some c5.size) : ∃ V2, (Instr.storeAt t5 (.pointer (some ⟨g5, 0, none⟩)) (.agg c5)).run Try.prog V = .ok () V2 ∧ K11 g4 g5 t4 t5 z4 c4 z5 c5 b1 true W V2 := by
 obtain ⟨V2, hst, hX, hbt⟩ := st_all (cs' := c5) (ty := t5) h.x5 hz h1 hs
 exact ⟨V2, hst, fun k hk e4 e5 => (hbt.2 k (Nat.lt_of_lt_of_le hk h.bel.size) e5).trans (h.but k hk e4 e5), h.bel.trans (hbt.1.mono (Nat.min_le_right _ _)), h.x4.but hbt hn, hX⟩
theorem K11.bx (h : K11 g4 g5 t4 t5 z4 c4 z5 c5 b1 b2 W V) {g t : Nat} {cs : Array Value} (hX : Bx W g cs t) (h4 : g ≠ g4) (h5 : g ≠ g5) : Bx V g cs t := (h.but g hX.lt h4 h5).trans hX
end
theorem sub_nat {ρ : Operand → Value} {o : Oper} {x y : Operand} (ho : o.op = .binOp .sub 3 x y 3) (n : Nat) (h : 0 < n) (h2 : n ≤ 1000000) (hx : ρ x = .int .i64 n) (hy : ρ y = .int .i64 1) (w : World) : (execOp ρ o).run Try.prog w = .ok (.value (.int .i64 ((n - 1 : Nat) : Int))) w := by
 have := sub_i ho n 1 (by omega) hx hy w
 rwa [show (n : Int) - 1 = ((n - 1 : Nat) : Int) by omega] at this
theorem own_same2 {w w' : World} {B e s n n2 c : Nat} {a : Option Addr} {xs : List Value} (h : w.ownsRow B e s (.slice a n c) n2 xs) (hs : ∀ x, a = some x → w'.heap[x.block]? = w.heap[x.block]?) : w'.ownsRow B e s (.slice a n c) n2 xs := by
 refine ⟨h.1, ?_⟩
 rcases h.2 with h0 | ⟨g, cap, cur, e0, hb, hg, r⟩
 ·exact .inl h0
 ·refine .inr ⟨g, cap, cur, e0, hb, ?_, r⟩
  simp only [Value.slice.injEq, true_and] at e0
  rw [← hg]
  exact hs _ e0.1
theorem load_rs {w : World} {g t : Nat} {mo : Int} {ap af : Option Addr} {n cp nf cf : Nat} (h : Bx w g (rsA mo ap n cp af nf cf) t) : (Instr.loadAt 28 (.pointer (some ⟨g, 0, none⟩))).run Try.prog w = .ok (.agg (rsA mo ap n cp af nf cf)) w :=
 run_loadAt_mid w g 0 28 [.int .i64 mo, .slice ap n cp, .slice af nf cf] _ (bx_range h) Try.underlying28 rfl (by kernel_rfl)
theorem rs_one (mo : Int) (ap af : Option Addr) (n cp nf cf : Nat) : (rsA mo ap n cp af nf cf).all (·.oneCell') = true := by simp [Value.oneCell']
theorem plA_one (x : Pn × Ad) : (plA x).all (·.oneCell') = true := by kernel_rfl
theorem nil_pl (w : World) : (Instr.buildSlice 26 0 #[]).run Try.prog w = .ok (.slice (some ⟨w.heap.size, 0, none⟩) 0 0) (w.alloc (.cells #[] 73)) := build_nil Try.underlying26 infoPl w
/-- A row of places of the call's own. -/
def RowP (w : World) (B : Nat) (v : Value) (L : List (Pn × Ad)) : Prop := w.ownsRow B 73 43 v L.length (L.flatMap pll)
theorem RowP.below {w w' : World} {B : Nat} {v : Value} {L : List (Pn × Ad)} (h : RowP w B v L) (hb : Below w.heap.size w w') : RowP w' B v L := own_below h hb
theorem RowP.rg {w : World} {B c n : Nat} {a : Option Addr} {L : List (Pn × Ad)} (h : RowP w B (.slice a n c) L) {i : Nat} (hi : i < L.length) : ∃ b, a = some ⟨b, 0, none⟩ ∧ B ≤ b ∧ w.rangeAt b (0 + i * 43) (pll (L.getD i zPA)) := by
 obtain ⟨a2, c2, e, hcs, -⟩ := own_cs h
 simp only [Value.slice.injEq] at e
 obtain ⟨rfl, -, -⟩ := e
 obtain ⟨b, off, e2, -, hr⟩ := fl_range pll pl_len (by omega) zPA hcs hi
 rcases h.2 with ⟨e0, -⟩ | ⟨g2, cap, cur, e0, hB, -⟩
 ·simp only [Value.slice.injEq] at e0
  rw [e2] at e0
  cases e0.1
 ·simp only [Value.slice.injEq] at e0
  rw [e0.1] at e2
  simp only [Option.some.injEq, Addr.mk.injEq, and_true] at e2
  obtain ⟨rfl, rfl⟩ := e2
  exact ⟨g2, e0.1, hB, hr⟩
/-- A row that reads is copied into a new one. -/
theorem copy_pl {w : World} {a : Option Addr} {c : Nat} {L : List (Pn × Ad)} (h : Cs w a (L.flatMap pll)) (hl : L.length ≤ 100000) : ∃ a2 c2 V, (Builtin.append_ #[26, 26] 26 #[.slice (some ⟨w.heap.size, 0, none⟩) 0 0, .slice a L.length c]).run Try.prog (w.alloc (.cells #[] 73)) = .ok (.slice a2 L.length c2) V ∧ RowP V w.heap.size (.slice a2 L.length c2) L ∧ Below w.heap.size w V := by
 have hb : Below w.heap.size w (w.alloc (.cells #[] 73)) := (Below.refl _ w).alloc (Nat.le_refl _) _
 obtain ⟨v, V, h1, h2, h3, -⟩ := append_cs (P := Try.prog) (t := 26) (m := L.length) (by kernel_rfl) infoPl (by kernel_rfl) (by omega) (by omega) (own_nil w 73 43) a c (L.flatMap pll) (h.below hb) (fl_len pll pl_len L) (fl_one pll pl_one L) (by simp) (Nat.zero_le _) hl
 rw [Nat.zero_add, List.nil_append] at h2
 obtain ⟨a2, c2, rfl, -, -⟩ := own_cs h2
 exact ⟨a2, c2, V, h1, h2, hb.trans h3⟩
theorem copy_is {w : World} {a : Option Addr} {c n : Nat} {L : List Int} (h : Cs w a (icells L)) (hn : L.length = n) (hl : n ≤ 100000) : ∃ a2 c2 V, (Builtin.append_ #[22, 22] 22 #[.slice (some ⟨w.heap.size, 0, none⟩) 0 0, .slice a n c]).run Try.prog (w.alloc (.cells #[] 3)) = .ok (.slice a2 n c2) V ∧ V.ownsRow w.heap.size 3 1 (.slice a2 n c2) n (icells L) ∧ Below w.heap.size w V := by
 subst hn
 have hb : Below w.heap.size w (w.alloc (.cells #[] 3)) := (Below.refl _ w).alloc (Nat.le_refl _) _
 obtain ⟨v, V, h1, h2, h3, -⟩ := append_cs (P := Try.prog) (t := 22) (m := L.length) (by kernel_rfl) infoI (by kernel_rfl) (by omega) (by omega) (own_nil w 3 1) a c (icells L) (h.below hb) (by simp [icells]) (icells_one L) (by simp) (Nat.zero_le _) hl
 rw [Nat.zero_add, List.nil_append] at h2
 obtain ⟨a2, c2, rfl, -, -⟩ := own_cs h2
 exact ⟨a2, c2, V, h1, h2, hb.trans h3⟩
theorem push_pl {w : World} {B c n : Nat} {a : Option Addr} {L : List (Pn × Ad)} (h : RowP w B (.slice a n c) L) (hn : n = L.length) (hB : B ≤ w.heap.size) (x : Pn × Ad) (hl : n ≤ 100000) :
  ∃ a2 c2 V, (Builtin.append_ #[26, 26] 26 #[.slice a n c, .slice (some ⟨w.heap.size, 0, none⟩) 1 1]).run Try.prog (w.alloc (.cells (plA x) 73)) = .ok (.slice a2 (n + 1) c2) V ∧ RowP V B (.slice a2 (n + 1) c2) (L ++ [x]) ∧ Below B w V := by
 subst hn
 have hb : Below w.heap.size w (w.alloc (.cells (plA x) 73)) := (Below.refl _ w).alloc (Nat.le_refl _) _
 have hc : Cs (w.alloc (.cells (plA x) 73)) (some ⟨w.heap.size, 0, none⟩) (pll x) := Cs.block (t := 73) (fr := (0, 0)) (heap_alloc_last w _)
 obtain ⟨v2, V2, hr, hO2, hb2, -⟩ := append_cs (P := Try.prog) (t := 26) (m := 1) (by kernel_rfl) infoPl (by kernel_rfl) (by omega) (by omega) (own_below h hb) (some ⟨w.heap.size, 0, none⟩) 1 (pll x) hc rfl (pl_one x) (by simp; omega) hl (by omega)
 obtain ⟨a2, c2, rfl, -, -⟩ := own_cs hO2
 refine ⟨a2, c2, V2, hr, ?_, (hb.mono hB).trans hb2⟩
 unfold RowP
 rw [fl_app, show ([x] : List (Pn × Ad)).flatMap pll = pll x by simp, List.length_append, List.length_singleton]
 exact hO2
/-- A place is written. -/
theorem set_pl {w : World} {B c n b : Nat} {L : List (Pn × Ad)} (h : RowP w B (.slice (some ⟨b, 0, none⟩) n c) L) (hn : n = L.length) {i : Nat} (hi : i < L.length) (hB : B ≤ b) (x : Pn × Ad) : ∃ V, (Instr.storeAt 73 (.pointer (some ⟨b, 0 + i * 43, none⟩)) (.agg (plA x))).run Try.prog w = .ok () V ∧ RowP V B (.slice (some ⟨b, 0, none⟩) n c) (L.set i x) ∧ Below B w V ∧ But b w V := by
 subst hn
 have h1 := run_storeAt_mid (P := Try.prog) w b (i * 43 + 0) 73 (plA x) (own_there pll pl_len h rfl hi (by show 0 + 43 ≤ 43; decide)) (by kernel_rfl) (plA_one x)
 have h2 := own_part pll pl_len zPA h hi (o := 0) (y := x) (vs := pll x) (by show 0 + 43 ≤ 43; decide) (by
  rw [List.take_zero, List.nil_append, List.drop_of_length_le (by rw [pl_len, pl_len]; omega), List.append_nil])
 refine ⟨_, ?_, ?_, below_sets hB (pll x) (i * 43 + 0) w, but_sets (pll x) (i * 43 + 0) w⟩
 ·rw [show 0 + i * 43 = i * 43 + 0 by omega]
  exact h1
 ·unfold RowP
  rw [List.length_set]
  exact h2
def AdO (w : World) (m : Sm) (L : List (Pn × Ad)) (ap af : Option Addr) (e : En) (d : Ad) (r : Ending) (w' : World) : Prop := ∃ L' ap' cp' af' cf', r = .returned (.tuple #[.agg (rsA (addS m e).mo ap' L'.length cp' af' (addS m e).F.length cf'), .agg #[.int .i64 (addH m).1, .int .i64 (addH m).2], .bool (addO m)]) ∧ Rm w' (addS m e) L' ap' cp' af' cf' ∧ (∀ k, RmB (addS m e) L' ap' af' k → RmB m L ap af k ∨ EB e d k ∨ w.heap.size ≤ k) ∧ Below w.heap.size w w'
set_option maxRecDepth 100000 in
set_option maxHeartbeats 8000000 in
theorem radd_no {w : World} {ap af : Option Addr} {n cp nf cf cn : Nat} {mo : Int} {e : En} {d : Ad} (CC : ∀ V, Below w.heap.size w V → Calls Try.prog 12 #[.agg (rsA mo ap n cp af nf cf)] V fun e w' => e = .returned (.int .i64 cn) ∧ Below V.heap.size V w') (hfull : mo ≤ cn) : Calls Try.prog 29 #[.agg (rsA mo ap n cp af nf cf), .agg (enA e d)] w fun r w' => r = .returned (.tuple #[.agg (rsA mo ap n cp af nf cf), .agg #[.int .i64 0, .int .i64 0], .bool false]) ∧ Below w.heap.size w w' := by
 go_enter Try.func29, Try.ntmps29
 go_upto_region 1 with fail
 change Code.wp _ _ _ _ ((((w.alloc (.cells (rsA mo ap n cp af nf cf) 28)).alloc (.cells (enA e d) 44)).alloc (.cells (rsA 0 none 0 0 none 0 0) 28)).alloc (.cells #[.int .i64 0, .int .i64 0] 33))
 have hb1 : Below w.heap.size w (w.alloc (.cells (rsA mo ap n cp af nf cf) 28)) := (Below.refl _ w).alloc (Nat.le_refl _) _
 have hX2 : Bx (w.alloc (.cells (rsA mo ap n cp af nf cf) 28)) w.heap.size (rsA mo ap n cp af nf cf) 28 := heap_alloc_last w _
 have hs1 : (w.alloc (.cells (rsA mo ap n cp af nf cf) 28)).heap.size = w.heap.size + 1 := by simp
 generalize (w.alloc (.cells (rsA mo ap n cp af nf cf) 28)) = W1 at *
 have hb2 : Below w.heap.size w (W1.alloc (.cells (enA e d) 44)) := hb1.alloc hb1.size _
 have hX2 : Bx (W1.alloc (.cells (enA e d) 44)) w.heap.size (rsA mo ap n cp af nf cf) 28 := hX2.below hX2.lt ((Below.refl _ W1).alloc (Nat.le_refl _) _)
 have hX3 : Bx (W1.alloc (.cells (enA e d) 44)) W1.heap.size (enA e d) 44 := heap_alloc_last W1 _
 have hs2 : (W1.alloc (.cells (enA e d) 44)).heap.size = W1.heap.size + 1 := by simp
 generalize (W1.alloc (.cells (enA e d) 44)) = W2 at *
 have hb3 : Below w.heap.size w (W2.alloc (.cells (rsA 0 none 0 0 none 0 0) 28)) := hb2.alloc hb2.size _
 have hX2 : Bx (W2.alloc (.cells (rsA 0 none 0 0 none 0 0) 28)) w.heap.size (rsA mo ap n cp af nf cf) 28 := hX2.below hX2.lt ((Below.refl _ W2).alloc (Nat.le_refl _) _)
 have hX3 : Bx (W2.alloc (.cells (rsA 0 none 0 0 none 0 0) 28)) W1.heap.size (enA e d) 44 := hX3.below hX3.lt ((Below.refl _ W2).alloc (Nat.le_refl _) _)
 have hX4 : Bx (W2.alloc (.cells (rsA 0 none 0 0 none 0 0) 28)) W2.heap.size (rsA 0 none 0 0 none 0 0) 28 := heap_alloc_last W2 _
 have hs3 : (W2.alloc (.cells (rsA 0 none 0 0 none 0 0) 28)).heap.size = W2.heap.size + 1 := by simp
 generalize (W2.alloc (.cells (rsA 0 none 0 0 none 0 0) 28)) = W3 at *
 have hb0 : Below w.heap.size w (W3.alloc (.cells #[.int .i64 0, .int .i64 0] 33)) := hb3.alloc hb3.size _
 have hX2 : Bx (W3.alloc (.cells #[.int .i64 0, .int .i64 0] 33)) w.heap.size (rsA mo ap n cp af nf cf) 28 := hX2.below hX2.lt ((Below.refl _ W3).alloc (Nat.le_refl _) _)
 have hX3 : Bx (W3.alloc (.cells #[.int .i64 0, .int .i64 0] 33)) W1.heap.size (enA e d) 44 := hX3.below hX3.lt ((Below.refl _ W3).alloc (Nat.le_refl _) _)
 have hX4 : Bx (W3.alloc (.cells #[.int .i64 0, .int .i64 0] 33)) W2.heap.size (rsA 0 none 0 0 none 0 0) 28 := hX4.below hX4.lt ((Below.refl _ W3).alloc (Nat.le_refl _) _)
 have hX5 : Bx (W3.alloc (.cells #[.int .i64 0, .int .i64 0] 33)) W3.heap.size #[.int .i64 0, .int .i64 0] 33 := heap_alloc_last W3 _
 generalize (W3.alloc (.cells #[.int .i64 0, .int .i64 0] 33)) = W at *
 rw [hs3, hs2, hs1] at hX5
 rw [hs2, hs1] at hX4
 rw [hs1] at hX3
 obtain ⟨g2, hg2⟩ : ∃ g, w.heap.size = g := ⟨_, rfl⟩
 obtain ⟨g3, hg3⟩ : ∃ g, g2 + 1 = g := ⟨_, rfl⟩
 obtain ⟨g4, hg4⟩ : ∃ g, g3 + 1 = g := ⟨_, rfl⟩
 obtain ⟨g5, hg5⟩ : ∃ g, g4 + 1 = g := ⟨_, rfl⟩
 rw [show w.heap.size + 1 = g3 by omega] at hX3
 rw [show w.heap.size + 1 + 1 = g4 by omega] at hX4
 rw [show w.heap.size + 1 + 1 + 1 = g5 by omega] at hX5
 have HG : Hid (w.heap.size ≤ g4 ∧ w.heap.size ≤ g5 ∧ g2 ≠ g4 ∧ g2 ≠ g5 ∧ g3 ≠ g4 ∧ g3 ≠ g5 ∧ g4 ≠ g5 ∧ g4 < W.heap.size ∧ g5 < W.heap.size) := Lib.hid ⟨by omega, by omega, by omega, by omega, by omega, by omega, by omega, by rw [← hg4, ← hg3, ← hg2]; rw [show w.heap.size + 1 + 1 = g4 by omega]; exact hX4.lt, hX5.lt⟩
 rw [hg2] at hX2
 simp only [hg2]
 simp only [hg3]
 simp only [hg4]
 simp only [hg5]
 have HB := Lib.hid hb0
 clear hb1 hb2 hb3 hs1 hs2 hs3 hb0 hg2 hg3 hg4 hg5
 have CW := fun U (hU : Below W.heap.size W U) => (CC U (HB.out.trans (hU.mono HB.out.size))).mono fun e w' z => (⟨z.1, hU.trans (z.2.mono hU.size)⟩ : e = .returned (.int .i64 cn) ∧ Below W.heap.size W w')
 clear CC
 go_upto_region 1 with fail
 refine wp_region_class (C := fun U => Below W.heap.size W U) (by kernel_rfl) (by kernel_rfl) ((Below.refl _ W).drew) ?_
 refine gyl rfl ⟨g2, 0, none⟩ (.agg (rsA mo ap n cp af nf cf)) (fun U hU => load_rs (hX2.below hX2.lt hU)) ?_
 simp only [pu]
 refine gq_call (by kernel_rfl) (some 13) rfl 12 #[.agg (rsA mo ap n cp af nf cf)] (.int .i64 cn) (fun U hU => by kernel_rfl) (CW) ?_
 simp only [pu]
 refine gy (.pointer (some ⟨g2, 0, none⟩)) <| gyl rfl ⟨g2, 0, none⟩ (.int .i64 mo) (fun U hU => (hX2.below hX2.lt hU).load (i := 0) rfl (by kernel_rfl)) <| gyv (.bool true) (fun U hU => geq_n rfl (cn) (mo) (decide_eq_true (hfull)) (by kernel_rfl) (by kernel_rfl) U) ?_
 simp only [pu]
 apply wpQuiet_nil
 intro Y1 hV
 clear CW
 have hX2V := hX2.below hX2.lt hV
 have hX4V := hX4.below hX4.lt hV
 have hX5V := hX5.below hX5.lt hV
 obtain ⟨V2, hst, hY, hbt⟩ := st_all (cs' := rsA mo ap n cp af nf cf) (ty := 28) hX4V rfl (rs_one _ _ _ _ _ _ _) (by kernel_rfl)
 obtain ⟨V3, hst3, hY3, hbt3⟩ := st_all (cs' := #[.int .i64 0, .int .i64 0]) (ty := 33) (hX5V.but hbt (Ne.symm HG.out.2.2.2.2.2.2.1)) rfl (by simp [Value.oneCell']) (by kernel_rfl)
 have hY2 := hY.but hbt3 HG.out.2.2.2.2.2.2.1
 have HE := Lib.hid (((HB.out.trans (hV.mono HB.out.size)).trans (hbt.1.mono HG.out.1)).trans (hbt3.1.mono HG.out.2.1))
 clear hV hbt hbt3 hX2 hX3 hX4 hX5 hX4V hX5V hY
 go_upto_region 2 with fail
 refine wl <| gzl rfl ⟨g2, 0, none⟩ (.agg (rsA mo ap n cp af nf cf)) (load_rs hX2V) <| gz1 (.agg #[.int .i64 0, .int .i64 0]) <| gzs rfl (hst) <| gzs rfl (hst3) <| gz1 (.bool false) <| wn ?_
 simp only [pu]
 clear hst hst3 hX2V
 go_wp2_with fail
 exact bodyPost_ret (results_2ct rfl (by kernel_rfl) (load_rs hY2) (by kernel_rfl) (load_hn (x := (0, 0)) (bx_range (cs := hnl (0, 0)) hY3)) (by kernel_rfl)) rfl ⟨rfl, HE.out⟩
set_option maxRecDepth 100000 in
set_option maxHeartbeats 8000000 in
theorem radd_free {w : World} {ap af : Option Addr} {n cp nf cf cn : Nat} {mo : Int} {e : En} {d : Ad} (CC : ∀ V, Below w.heap.size w V → Calls Try.prog 12 #[.agg (rsA mo ap n cp af nf cf)] V fun e w' => e = .returned (.int .i64 cn) ∧ Below V.heap.size V w') {L : List (Pn × Ad)} {F : List Int} (hfull : ¬ mo ≤ (cn : Int)) (hpl : Cs w ap (L.flatMap pll)) (hn : L.length = n) (hn2 : n ≤ 512) {i us : Nat} (hus : us ≤ 1000000) (hnf : 0 < nf) (hnf2 : nf ≤ 512) (hfc : nf ≤ cf) (hfl : Cs w af (icells F)) (hF : F.length = nf) (hlast : F.getD (nf - 1) 0 = i) (hi : i < n) (hu7 : (L.getD i zPA).1.us = us) : Calls Try.prog 29 #[.agg (rsA mo ap n cp af nf cf), .agg (enA e d)] w fun r w' => ∃ (a7 : Option Addr) (c7 : Nat) (af7 : Option Addr) (cf7 : Nat), r = .returned (.tuple #[.agg (rsA mo a7 n c7 af7 (nf - 1) cf7), .agg #[.int .i64 i, .int .i64 us], .bool true]) ∧ RowP w' w.heap.size (.slice a7 n c7) (L.set i (⟨true, us + 1, e⟩, d)) ∧ w'.ownsRow w.heap.size 3 1 (.slice af7 (nf - 1) cf7) (nf - 1) (icells (F.take (nf - 1))) ∧ Below w.heap.size w w' := by
 have HPL := Lib.hid hpl
 have HLN := Lib.hid hn
 have HU7 := Lib.hid hu7
 have HNB : Hid (n ≤ 512 ∧ us ≤ 1000000) := Lib.hid ⟨hn2, hus⟩
 have HFL := Lib.hid hfl
 have HF := Lib.hid hF
 have HLA := Lib.hid hlast
 have HNF : Hid (0 < nf ∧ nf ≤ 512) := Lib.hid ⟨hnf, hnf2⟩
 have HFC := Lib.hid hfc
 clear hfl hF hlast hnf hnf2 hfc
 clear hpl hn hu7 hn2 hus
 go_enter Try.func29, Try.ntmps29
 go_upto_region 1 with fail
 change Code.wp _ _ _ _ ((((w.alloc (.cells (rsA mo ap n cp af nf cf) 28)).alloc (.cells (enA e d) 44)).alloc (.cells (rsA 0 none 0 0 none 0 0) 28)).alloc (.cells #[.int .i64 0, .int .i64 0] 33))
 have hb1 : Below w.heap.size w (w.alloc (.cells (rsA mo ap n cp af nf cf) 28)) := (Below.refl _ w).alloc (Nat.le_refl _) _
 have hX2 : Bx (w.alloc (.cells (rsA mo ap n cp af nf cf) 28)) w.heap.size (rsA mo ap n cp af nf cf) 28 := heap_alloc_last w _
 have hs1 : (w.alloc (.cells (rsA mo ap n cp af nf cf) 28)).heap.size = w.heap.size + 1 := by simp
 generalize (w.alloc (.cells (rsA mo ap n cp af nf cf) 28)) = W1 at *
 have hb2 : Below w.heap.size w (W1.alloc (.cells (enA e d) 44)) := hb1.alloc hb1.size _
 have hX2 : Bx (W1.alloc (.cells (enA e d) 44)) w.heap.size (rsA mo ap n cp af nf cf) 28 := hX2.below hX2.lt ((Below.refl _ W1).alloc (Nat.le_refl _) _)
 have hX3 : Bx (W1.alloc (.cells (enA e d) 44)) W1.heap.size (enA e d) 44 := heap_alloc_last W1 _
 have hs2 : (W1.alloc (.cells (enA e d) 44)).heap.size = W1.heap.size + 1 := by simp
 generalize (W1.alloc (.cells (enA e d) 44)) = W2 at *
 have hb3 : Below w.heap.size w (W2.alloc (.cells (rsA 0 none 0 0 none 0 0) 28)) := hb2.alloc hb2.size _
 have hX2 : Bx (W2.alloc (.cells (rsA 0 none 0 0 none 0 0) 28)) w.heap.size (rsA mo ap n cp af nf cf) 28 := hX2.below hX2.lt ((Below.refl _ W2).alloc (Nat.le_refl _) _)
 have hX3 : Bx (W2.alloc (.cells (rsA 0 none 0 0 none 0 0) 28)) W1.heap.size (enA e d) 44 := hX3.below hX3.lt ((Below.refl _ W2).alloc (Nat.le_refl _) _)
 have hX4 : Bx (W2.alloc (.cells (rsA 0 none 0 0 none 0 0) 28)) W2.heap.size (rsA 0 none 0 0 none 0 0) 28 := heap_alloc_last W2 _
 have hs3 : (W2.alloc (.cells (rsA 0 none 0 0 none 0 0) 28)).heap.size = W2.heap.size + 1 := by simp
 generalize (W2.alloc (.cells (rsA 0 none 0 0 none 0 0) 28)) = W3 at *
 have hb0 : Below w.heap.size w (W3.alloc (.cells #[.int .i64 0, .int .i64 0] 33)) := hb3.alloc hb3.size _
 have hX2 : Bx (W3.alloc (.cells #[.int .i64 0, .int .i64 0] 33)) w.heap.size (rsA mo ap n cp af nf cf) 28 := hX2.below hX2.lt ((Below.refl _ W3).alloc (Nat.le_refl _) _)
 have hX3 : Bx (W3.alloc (.cells #[.int .i64 0, .int .i64 0] 33)) W1.heap.size (enA e d) 44 := hX3.below hX3.lt ((Below.refl _ W3).alloc (Nat.le_refl _) _)
 have hX4 : Bx (W3.alloc (.cells #[.int .i64 0, .int .i64 0] 33)) W2.heap.size (rsA 0 none 0 0 none 0 0) 28 := hX4.below hX4.lt ((Below.refl _ W3).alloc (Nat.le_refl _) _)
 have hX5 : Bx (W3.alloc (.cells #[.int .i64 0, .int .i64 0] 33)) W3.heap.size #[.int .i64 0, .int .i64 0] 33 := heap_alloc_last W3 _
 generalize (W3.alloc (.cells #[.int .i64 0, .int .i64 0] 33)) = W at *
 rw [hs3, hs2, hs1] at hX5
 rw [hs2, hs1] at hX4
 rw [hs1] at hX3
 obtain ⟨g2, hg2⟩ : ∃ g, w.heap.size = g := ⟨_, rfl⟩
 obtain ⟨g3, hg3⟩ : ∃ g, g2 + 1 = g := ⟨_, rfl⟩
 obtain ⟨g4, hg4⟩ : ∃ g, g3 + 1 = g := ⟨_, rfl⟩
 obtain ⟨g5, hg5⟩ : ∃ g, g4 + 1 = g := ⟨_, rfl⟩
 rw [show w.heap.size + 1 = g3 by omega] at hX3
 rw [show w.heap.size + 1 + 1 = g4 by omega] at hX4
 rw [show w.heap.size + 1 + 1 + 1 = g5 by omega] at hX5
 have HG : Hid (w.heap.size ≤ g4 ∧ w.heap.size ≤ g5 ∧ g2 ≠ g4 ∧ g2 ≠ g5 ∧ g3 ≠ g4 ∧ g3 ≠ g5 ∧ g4 ≠ g5 ∧ g4 < W.heap.size ∧ g5 < W.heap.size) := Lib.hid ⟨by omega, by omega, by omega, by omega, by omega, by omega, by omega, by rw [← hg4, ← hg3, ← hg2]; rw [show w.heap.size + 1 + 1 = g4 by omega]; exact hX4.lt, hX5.lt⟩
 rw [hg2] at hX2
 simp only [hg2]
 simp only [hg3]
 simp only [hg4]
 simp only [hg5]
 have HG2 : Hid (g2 < W.heap.size ∧ g3 < W.heap.size) := Lib.hid ⟨hX2.lt, hX3.lt⟩
 have HG3 : Hid (g4 < W.heap.size ∧ g5 < W.heap.size ∧ W.heap.size ≤ W.heap.size) := Lib.hid ⟨HG.out.2.2.2.2.2.2.2.1, HG.out.2.2.2.2.2.2.2.2, Nat.le_refl _⟩
 have HB := Lib.hid hb0
 clear hb1 hb2 hb3 hs1 hs2 hs3 hb0 hg2 hg3 hg4 hg5
 have CW := fun U (hU : Below W.heap.size W U) => (CC U (HB.out.trans (hU.mono HB.out.size))).mono fun e w' z => (⟨z.1, hU.trans (z.2.mono hU.size)⟩ : e = .returned (.int .i64 cn) ∧ Below W.heap.size W w')
 clear CC
 go_upto_region 1 with fail
 refine wp_region_class (C := fun U => Below W.heap.size W U) (by kernel_rfl) (by kernel_rfl) ((Below.refl _ W).drew) ?_
 refine gyl rfl ⟨g2, 0, none⟩ (.agg (rsA mo ap n cp af nf cf)) (fun U hU => load_rs (hX2.below hX2.lt hU)) ?_
 simp only [pu]
 refine gq_call (by kernel_rfl) (some 13) rfl 12 #[.agg (rsA mo ap n cp af nf cf)] (.int .i64 cn) (fun U hU => by kernel_rfl) (CW) ?_
 simp only [pu]
 refine gy (.pointer (some ⟨g2, 0, none⟩)) <| gyl rfl ⟨g2, 0, none⟩ (.int .i64 mo) (fun U hU => (hX2.below hX2.lt hU).load (i := 0) rfl (by kernel_rfl)) <| gyv (.bool false) (fun U hU => geq_n rfl (cn) (mo) (decide_eq_false (hfull)) (by kernel_rfl) (by kernel_rfl) U) ?_
 simp only [pu]
 apply wpQuiet_nil
 intro Y1 hV
 clear CW
 have hX2V := hX2.below hX2.lt hV
 have hX3V := hX3.below hX3.lt hV
 have hX4V := hX4.below hX4.lt hV
 have hX5V := hX5.below hX5.lt hV
 have HB1 := Lib.hid (HB.out.trans (hV.mono HB.out.size))
 have HWS : Hid (W.heap.size ≤ Y1.heap.size) := Lib.hid hV.size
 obtain ⟨a6, c6, Y2, hap, hr6, hb6⟩ := copy_pl (c := cp) (HPL.out.below HB1.out) (by rw [HLN.out]; have := HNB.out; omega)
 rw [HLN.out] at hap hr6
 have hbd := nil_pl Y1
 have HB2 := Lib.hid (HB1.out.trans (hb6.mono HB1.out.size))
 have hX2W := hX2V.below hX2V.lt hb6
 have hX3W := hX3V.below hX3V.lt hb6
 have hX4W := hX4V.below hX4V.lt hb6
 have hX5W := hX5V.below hX5V.lt hb6
 have HY2 : Hid (Y1.heap.size ≤ Y2.heap.size) := Lib.hid hb6.size
 clear hV hX2 hX3 hX4 hX5 hX3V hX4V hX5V hb6
 have hX2N := hX2V.below hX2V.lt ((Below.refl _ Y1).alloc (Nat.le_refl _) (.cells #[] 73))
 go_upto_region 3 with fail
 apply wp_region_lit
 refine gw_build (by kernel_rfl) (some 19) rfl 26 0 #[] rfl #[] (by kernel_rfl) (.slice (some ⟨Y1.heap.size, 0, none⟩) 0 0) _ hbd ?_
 simp only [pu]
 refine gz1 (.pointer (some ⟨g2, 1, none⟩)) <| gzl rfl ⟨g2, 1, none⟩ (.slice ap n cp) (hX2N.load (i := 1) rfl (by kernel_rfl)) ?_
 simp only [pu]
 refine append_step rfl (some 22) rfl 26 rfl (.tmp 19) (.tmp 21) 26 rfl (.slice (some ⟨Y1.heap.size, 0, none⟩) 0 0) (.slice ap n cp) (.slice a6 n c6) Y2 (by kernel_rfl) (by kernel_rfl) hap ?_
 simp only [pu]
 refine gz1 (.slice a6 n c6) <| wn ?_
 simp only [pu]
 clear hap hbd hX2V hX2N
 go_upto_region 4 with fail
 refine wp_region_class (C := fun U => Below Y2.heap.size Y2 U) (by kernel_rfl) (by kernel_rfl) ((Below.refl _ Y2).drew) ?_
 refine gy (.slice a6 n c6) <| gy (.int .i64 n) <| gy (.pointer (some ⟨g2, 2, none⟩)) <| gyl rfl ⟨g2, 2, none⟩ (.slice af nf cf) (fun U hU => (hX2W.below hX2W.lt hU).load (i := 2) rfl (by kernel_rfl)) <| gy (.int .i64 n) <| gy (.slice af nf cf) ?_
 simp only [pu]
 apply wpQuiet_nil
 intro Y3 hV3
 have hX2V := hX2W.below hX2W.lt hV3
 have hX3V := hX3W.below hX3W.lt hV3
 have hX4V := hX4W.below hX4W.lt hV3
 have hX5V := hX5W.below hX5W.lt hV3
 have hr7 := hr6.below hV3
 have HB3 := Lib.hid (HB2.out.trans (hV3.mono HB2.out.size))
 have HY3 : Hid (Y2.heap.size ≤ Y3.heap.size) := Lib.hid hV3.size
 clear hV3 hX2W hX3W hX4W hX5W hr6
 go_upto_region 5 with fail
 refine wl <| gz3 (.slice af nf cf) (.int .i64 nf) (.int .i64 nf) <| wn ?_
 simp only [pu]
 go_upto_region 6 with fail
 refine wl <| gz1 (.int .i64 nf) <| gzb (gtr_n rfl (nf) (0) (decide_eq_true (by have := HNF.out; omega))) <| wn ?_
 simp only [pu]
 have hfl := HFL.out.below HB3.out
 obtain ⟨bf, of, e5, hbf, hcf⟩ := int_at hfl (k := nf - 1) (by have := HNF.out; have := HF.out; omega)
 rw [HLA.out] at hcf
 obtain rfl := e5
 obtain ⟨Y0, hY0⟩ : ∃ X, { Y3 with drawn := Y3.drawn + 1 } = X := ⟨_, rfl⟩
 have hb0 : Below Y3.heap.size Y3 Y0 := by rw [← hY0]; exact (Below.refl _ Y3).drew
 obtain ⟨af7, cf7, Y6, hap, hrf, hb9⟩ := copy_is (n := nf - 1) (c := cf) (L := F.take (nf - 1)) (by have := (hfl.below hb0).take ((nf - 1) * 1); rw [icells_take] at this; exact this) (by rw [List.length_take, HF.out]; omega) (by have := HNF.out; omega)
 have hbd := nil_int Y0
 obtain ⟨Y5, hY5⟩ : ∃ X, Y0.alloc (.cells #[] 3) = X := ⟨_, rfl⟩
 rw [hY5] at hap hbd
 have hb5 : Below Y0.heap.size Y0 Y5 := by rw [← hY5]; exact (Below.refl _ Y0).alloc (Nat.le_refl _) _
 have hbA : Below Y3.heap.size Y3 Y5 := hb0.trans (hb5.mono hb0.size)
 have hbB : Below Y3.heap.size Y3 Y6 := hb0.trans (hb9.mono hb0.size)
 have HBA := Lib.hid hbA
 have HBB := Lib.hid hbB
 have HB0 := Lib.hid hb0
 have HCF := Lib.hid hcf
 have HBF := Lib.hid hbf
 have h0 : KW false false false false false false Y0 Y5 Y6 Y6 { Y3 with drawn := Y3.drawn + 1 } := by rw [hY0]; exact KW.start
 have HAP := Lib.hid hap
 have HBD := Lib.hid hbd
 have HRF := Lib.hid hrf
 clear hfl hbA hbB hb0 hb5 hb9 hcf hbf hY0 hY5 hap hbd hrf
 go_upto_region 7 with fail
 refine wp_region_inv (fun listed act9 V => ∃ b0 b1 b2 b3 b4 b5 b6 b7 b8 b9 b10 b11 b12 : Bool, listed = #[b0, b1, b2, b3, b4, b5, b6, b7, b8, b9, b10, b11, b12] ∧ act9 = { tmps := #[.agg (rsA mo ap n cp (some ⟨bf, of, none⟩) nf cf), .agg (enA e d), .pointer (some ⟨g2, 0, none⟩), .pointer (some ⟨g3, 0, none⟩), .pointer (some ⟨g4, 0, none⟩), .pointer (some ⟨g5, 0, none⟩), .bool false, .slice a6 n c6, (cond b11 (.int .i64 i) (.int .i64 n)), (cond b12 (.slice af7 (nf - 1) cf7) (.slice (some ⟨bf, of, none⟩) nf cf)), .int .i64 nf, undef, .agg (rsA mo ap n cp (some ⟨bf, of, none⟩) nf cf), .int .i64 cn, .pointer (some ⟨g2, 0, none⟩), .int .i64 mo, .bool false, undef, undef, .slice (some ⟨Y1.heap.size, 0, none⟩) 0 0, .pointer (some ⟨g2, 1, none⟩), .slice ap n cp, .slice a6 n c6, .slice a6 n c6, .int .i64 n, .pointer (some ⟨g2, 2, none⟩), .slice (some ⟨bf, of, none⟩) nf cf, .slice (some ⟨bf, of, none⟩) nf cf, .int .i64 nf, .int .i64 nf, .bool true, (cond b0 (.slice (some ⟨bf, of, none⟩) nf cf) undef), (cond b1 (.int .i64 nf) undef), (cond b2 (.int .i64 ((nf - 1 : Nat) : Int)) undef), (cond b3 (.pointer (some ⟨bf, of + (nf - 1), none⟩)) undef), (cond b4 (.int .i64 i) undef), (cond b5 (.slice (some ⟨Y0.heap.size, 0, none⟩) 0 0) undef), (cond b6 (.slice (some ⟨bf, of, none⟩) nf cf) undef), (cond b7 (.int .i64 nf) undef), (cond b8 (.int .i64 ((nf - 1 : Nat) : Int)) undef), (cond b9 (.slice (some ⟨bf, of, none⟩) (nf - 1) cf) undef), (cond b10 (.slice af7 (nf - 1) cf7) undef), undef, undef, undef, undef, undef, undef, undef, undef, undef, undef, undef, undef, undef, undef, undef, undef, undef, undef, undef, undef, undef, undef, undef, undef, undef], defers := [] } ∧ KW b5 b10 false b0 b6 b12 Y0 Y5 Y6 Y6 V) (by kernel_rfl) (by kernel_rfl) ?_ ?_ ?_
 ·exact ⟨false, false, false, false, false, false, false, false, false, false, false, false, false, rfl, rfl, h0⟩
 ·intro i9 listed act9 V hi9 hr hJ
  obtain ⟨b0, b1, b2, b3, b4, b5, b6, b7, b8, b9, b10, b11, b12, rfl, rfl, hF⟩ := hJ
  have hi2 : i9 < 13 := hi9
  have hi3 : i9 = 0 ∨ i9 = 1 ∨ i9 = 2 ∨ i9 = 3 ∨ i9 = 4 ∨ i9 = 5 ∨ i9 = 6 ∨ i9 = 7 ∨ i9 = 8 ∨ i9 = 9 ∨ i9 = 10 ∨ i9 = 11 ∨ i9 = 12 := by omega
  rcases hi3 with rfl | rfl | rfl | rfl | rfl | rfl | rfl | rfl | rfl | rfl | rfl | rfl | rfl
  ·obtain rfl : b0 = false := ready_self hr
   obtain rfl := hF.p0
   refine st_val rfl (by kernel_rfl) (some 31) rfl (.slice (some ⟨bf, of, none⟩) nf cf) V (by kernel_rfl) ?_
   exact ⟨true, b1, b2, b3, b4, b5, b6, b7, b8, b9, b10, b11, false, rfl, rfl, hF.sp⟩
  ·obtain rfl : b1 = false := ready_self hr
   refine st_val rfl (by kernel_rfl) (some 32) rfl (.int .i64 nf) V (by kernel_rfl) ?_
   exact ⟨b0, true, b2, b3, b4, b5, b6, b7, b8, b9, b10, b11, b12, rfl, rfl, hF⟩
  ·obtain rfl : b2 = false := ready_self hr
   obtain rfl : b1 = true := ready_dep hr 1 (by kernel_rfl)
   refine st_val rfl (by kernel_rfl) (some 33) rfl (.int .i64 ((nf - 1 : Nat) : Int)) V (sub_nat rfl nf HNF.out.1 (by have := HNF.out; omega) (by kernel_rfl) (by kernel_rfl) V) ?_
   exact ⟨b0, true, true, b3, b4, b5, b6, b7, b8, b9, b10, b11, b12, rfl, rfl, hF⟩
  ·obtain rfl : b3 = false := ready_self hr
   obtain rfl : b0 = true := ready_dep hr 0 (by kernel_rfl)
   obtain rfl : b2 = true := ready_dep hr 2 (by kernel_rfl)
   refine st_val rfl (by kernel_rfl) (some 34) rfl (.pointer (some ⟨bf, of + (nf - 1), none⟩)) V (idx_int bf of nf cf (nf - 1) (by have := HNF.out; omega) V _ _ rfl (by kernel_rfl) (by kernel_rfl)) ?_
   exact ⟨true, b1, true, true, b4, b5, b6, b7, b8, b9, b10, b11, b12, rfl, rfl, hF⟩
  ·obtain rfl : b4 = false := ready_self hr
   obtain rfl : b3 = true := ready_dep hr 3 (by kernel_rfl)
   refine st_load rfl (by kernel_rfl) (some 35) rfl 3 (.tmp 34) rfl ⟨bf, of + (nf - 1), none⟩ (.int .i64 i) (by kernel_rfl) (load_cell (((hF.bel HB0.out HBA.out HBB.out HBB.out).cell (p := ⟨bf, of + (nf - 1), none⟩) HBF.out).trans HCF.out) (by kernel_rfl)) ?_
   exact ⟨b0, b1, b2, true, true, b5, b6, b7, b8, b9, b10, b11, b12, rfl, rfl, hF⟩
  ·obtain rfl : b5 = false := ready_self hr
   obtain ⟨rfl, -, rfl⟩ := hF.w0
   refine st_build rfl (by kernel_rfl) (some 36) rfl 22 0 #[] rfl #[] (by kernel_rfl) (.slice (some ⟨V.heap.size, 0, none⟩) 0 0) Y5 HBD.out ?_
   exact ⟨b0, b1, b2, b3, b4, true, b6, b7, b8, b9, false, b11, b12, rfl, rfl, hF.s1⟩
  ·obtain rfl : b6 = false := ready_self hr
   obtain rfl := hF.q0
   refine st_val rfl (by kernel_rfl) (some 37) rfl (.slice (some ⟨bf, of, none⟩) nf cf) V (by kernel_rfl) ?_
   exact ⟨b0, b1, b2, b3, b4, b5, true, b7, b8, b9, b10, b11, false, rfl, rfl, hF.sq⟩
  ·obtain rfl : b7 = false := ready_self hr
   refine st_val rfl (by kernel_rfl) (some 38) rfl (.int .i64 nf) V (by kernel_rfl) ?_
   exact ⟨b0, b1, b2, b3, b4, b5, b6, true, b8, b9, b10, b11, b12, rfl, rfl, hF⟩
  ·obtain rfl : b8 = false := ready_self hr
   obtain rfl : b7 = true := ready_dep hr 7 (by kernel_rfl)
   refine st_val rfl (by kernel_rfl) (some 39) rfl (.int .i64 ((nf - 1 : Nat) : Int)) V (sub_nat rfl nf HNF.out.1 (by have := HNF.out; omega) (by kernel_rfl) (by kernel_rfl) V) ?_
   exact ⟨b0, b1, b2, b3, b4, b5, b6, true, true, b9, b10, b11, b12, rfl, rfl, hF⟩
  ·obtain rfl : b9 = false := ready_self hr
   obtain rfl : b6 = true := ready_dep hr 6 (by kernel_rfl)
   obtain rfl : b8 = true := ready_dep hr 8 (by kernel_rfl)
   refine st_slice_to rfl (by kernel_rfl) (some 40) rfl 22 (.tmp 37) (.tmp 39) rfl (.slice (some ⟨bf, of, none⟩) nf cf) (.int .i64 ((nf - 1 : Nat) : Int)) (.slice (some ⟨bf, of, none⟩) (nf - 1) cf) (by kernel_rfl) (by kernel_rfl) (cut_int_to (some ⟨bf, of, none⟩) nf cf (nf - 1) V (by have := HFC.out; omega)) ?_
   exact ⟨b0, b1, b2, b3, b4, b5, true, b7, true, true, b10, b11, b12, rfl, rfl, hF⟩
  ·obtain rfl : b10 = false := ready_self hr
   obtain rfl : b5 = true := ready_dep hr 5 (by kernel_rfl)
   obtain rfl : b9 = true := ready_dep hr 9 (by kernel_rfl)
   obtain ⟨-, rfl⟩ := hF.w1
   refine st_append rfl (by kernel_rfl) (some 41) rfl 22 rfl (.tmp 36) (.tmp 40) 22 rfl (.slice (some ⟨Y0.heap.size, 0, none⟩) 0 0) (.slice (some ⟨bf, of, none⟩) (nf - 1) cf) (.slice af7 (nf - 1) cf7) Y6 (by kernel_rfl) (by kernel_rfl) HAP.out ?_
   exact ⟨b0, b1, b2, b3, b4, true, b6, b7, b8, true, true, b11, b12, rfl, rfl, hF.s2⟩
  ·obtain rfl : b11 = false := ready_self hr
   obtain rfl : b4 = true := ready_dep hr 4 (by kernel_rfl)
   refine st_val rfl (by kernel_rfl) (some 8) rfl (.int .i64 i) V (by kernel_rfl) ?_
   exact ⟨b0, b1, b2, b3, true, b5, b6, b7, b8, b9, b10, true, b12, rfl, rfl, hF⟩
  ·obtain rfl : b12 = false := ready_self hr
   obtain rfl : b0 = true := ready_dep hr 0 (by kernel_rfl)
   obtain rfl : b6 = true := ready_dep hr 6 (by kernel_rfl)
   obtain rfl : b10 = true := ready_dep hr 10 (by kernel_rfl)
   refine st_val rfl (by kernel_rfl) (some 9) rfl (.slice af7 (nf - 1) cf7) V (by kernel_rfl) ?_
   exact ⟨true, b1, b2, b3, b4, b5, true, b7, b8, b9, true, b11, true, rfl, rfl, hF.sr⟩
 ·intro act9 V hJ
  obtain ⟨b0, b1, b2, b3, b4, b5, b6, b7, b8, b9, b10, b11, b12, he, rfl, hF⟩ := hJ
  have he : (#[true, true, true, true, true, true, true, true, true, true, true, true, true] : Array Bool) = #[b0, b1, b2, b3, b4, b5, b6, b7, b8, b9, b10, b11, b12] := he
  simp only [Array.mk.injEq, List.cons.injEq, and_true] at he
  obtain ⟨rfl, rfl, rfl, rfl, rfl, rfl, rfl, rfl, rfl, rfl, rfl, rfl, rfl⟩ := he
  simp only [cond_true]
  obtain rfl := hF.is
  have hX2W := hX2V.below hX2V.lt HBB.out
  have hX3W := hX3V.below hX3V.lt HBB.out
  have hX4W := hX4V.below hX4V.lt HBB.out
  have hX5W := hX5V.below hX5V.lt HBB.out
  have hr8 := hr7.below HBB.out
  have HB4 := Lib.hid (HB3.out.trans (HBB.out.mono HB3.out.size))
  have HFR : Hid (V.ownsRow Y0.heap.size 3 1 (.slice af7 (nf - 1) cf7) (nf - 1) (icells (F.take (nf - 1)))) := HRF
  have HYR : Hid (W.heap.size ≤ Y0.heap.size) := Lib.hid (by have := HB0.out.size; have := HY2.out; have := HY3.out; have := HWS.out; omega)
  have hil : i < L.length := by rw [HLN.out]; exact hi
  have HPB : Hid (∀ b, a6 = some ⟨b, 0, none⟩ → b < Y0.heap.size) := Lib.hid fun b e => by have := (hr7.lt b (by rw [e]; rfl)).2; have := HB0.out.size; omega
  clear hF hX2V hX3V hX4V hX5V hr7
  generalize V = Y4 at *
  obtain ⟨b, hab, hBb, hrg⟩ := hr8.rg hil
  obtain rfl := hab
  obtain ⟨z9, hz9⟩ : ∃ z, (L.getD i zPA) = z := ⟨_, rfl⟩
  have hu9 := HU7.out
  rw [hz9] at hrg hu9
  obtain ⟨V5, hst5, hb5, hX11⟩ := new_bx (c := #[.int .i64 0, .int .i64 0]) (c' := #[.int .i64 i, .int .i64 us]) (ty := 33) Y4 rfl (by simp [Value.oneCell']) (by kernel_rfl)
  obtain ⟨g11, hg11⟩ : ∃ g, Y4.heap.size = g := ⟨_, rfl⟩
  have HG11 : Hid (g11 = Y4.heap.size) := Lib.hid hg11.symm
  go_upto_region 9 with fail
  refine wl <| gz3 (.int .i64 i) (.slice (some ⟨b, 0, none⟩) n c6) (.int .i64 i) <| gzv (.pointer (some ⟨b, 0 + i * 43, none⟩)) (idx_pl b 0 n c6 i (by omega) _ _ _ rfl (by kernel_rfl) (by kernel_rfl)) <| gz1 (.pointer (some ⟨b, 0 + i * 43 + 1, none⟩)) <|
   gzl rfl ⟨b, 0 + i * 43 + 1, none⟩ (.int .i64 us) (rg_cell hrg (j := 1) (by rw [← hu9]; rfl) (by kernel_rfl)) <| gz1 (.agg #[.int .i64 i, .int .i64 us]) ?_
  simp only [pu]
  refine run_to rfl (some 11) rfl (.pointer (some ⟨Y4.heap.size, 0, none⟩)) (Y4.alloc (.cells (#[.int .i64 0, .int .i64 0]) 33)) (by kernel_rfl) ?_
  simp only [pu]
  refine gzs rfl (hst5) <| wn ?_
  rw [hg11] at hX11 ⊢
  have hr9 := hr8.below hb5
  have hX2V := hX2W.below hX2W.lt hb5
  have hX3V := hX3W.below hX3W.lt hb5
  have hX4V := hX4W.below hX4W.lt hb5
  have hX5V := hX5W.below hX5W.lt hb5
  have HB5 := Lib.hid (HB4.out.trans (hb5.mono HB4.out.size))
  obtain ⟨V6, hst6, hr10, hb10, hbt10⟩ := set_pl hr9 (by simp [HLN.out]) (i := i) hil hBb (⟨true, us + 1, e⟩, d)
  have hbW : W.heap.size ≤ b := by have := HWS.out; omega
  have hX2Z := hX2V.but hbt10 (by have := HG2.out; omega)
  have hX3Z := hX3V.but hbt10 (by have := HG2.out; omega)
  have hX4Z := hX4V.but hbt10 (by have := HG.out; omega)
  have hX5Z := hX5V.but hbt10 (by have := HG.out; omega)
  have hbY : b < Y4.heap.size := (hr8.lt b rfl).2
  have hX11Z := hX11.but hbt10 (by have := HG11.out; omega)
  have HB6 := Lib.hid (HB5.out.trans (hb10.mono HB1.out.size))
  have HFR6 := Lib.hid (own_butq (own_below HFR.out hb5) hbt10 fun x hx => by have := (HFR.out.lt x.block (by rw [hx]; rfl)).1; have := HPB.out b rfl; omega)
  clear hst5 hb5 hrg hr8 hX2W hX3W hX4W hX5W hr9 hX4V hX5V hX2V hg11 hb10 hbt10
  go_upto_region 10 with fail
  refine wl <| gz3 (.slice (some ⟨b, 0, none⟩) n c6) (.int .i64 i) (.pointer (some ⟨g11, 1, none⟩)) <| gzl rfl ⟨g11, 1, none⟩ (.int .i64 us) (hX11.load (i := 1) rfl (by kernel_rfl)) <| gzv (.int .i64 (us + 1 : Nat)) (add_one rfl us (by have := HNB.out; omega) (by kernel_rfl) _) <|
   gzl rfl ⟨g3, 0, none⟩ (.agg (enA e d)) (load_en (bx_range hX3V)) <| gz1 (.agg (plA (⟨true, us + 1, e⟩, d))) <| gzv (.pointer (some ⟨b, 0 + i * 43, none⟩)) (idx_pl b 0 n c6 i (by omega) _ _ _ rfl (by kernel_rfl) (by kernel_rfl)) <| gzs rfl (hst6) <| wn ?_
  simp only [pu]
  clear hst6 hX3V hX11
  have h0 := K11.start (c4 := rsA mo (some ⟨b, 0, none⟩) n c6 af7 (nf - 1) cf7) (c5 := #[.int .i64 i, .int .i64 us]) hX4Z hX5Z
  have HX2 := Lib.hid hX2Z
  have HX11 := Lib.hid hX11Z
  clear hX2Z hX3Z hX4Z hX5Z hX11Z
  go_upto_region 11 with fail
  refine wp_region_inv (fun listed act9 V => ∃ b0 b1 b2 b3 b4 b5 b6 b7 b8 : Bool, listed = #[b0, b1, b2, b3, b4, b5, b6, b7, b8] ∧ act9 = { tmps := #[.agg (rsA mo ap n cp (some ⟨bf, of, none⟩) nf cf), .agg (enA e d), .pointer (some ⟨g2, 0, none⟩), .pointer (some ⟨g3, 0, none⟩), .pointer (some ⟨g4, 0, none⟩), .pointer (some ⟨g5, 0, none⟩), (cond b8 (.bool true) (.bool false)), .slice (some ⟨b, 0, none⟩) n c6, .int .i64 i, .slice af7 (nf - 1) cf7, .int .i64 nf, .pointer (some ⟨g11, 0, none⟩), .agg (rsA mo ap n cp (some ⟨bf, of, none⟩) nf cf), .int .i64 cn, .pointer (some ⟨g2, 0, none⟩), .int .i64 mo, .bool false, undef, undef, .slice (some ⟨Y1.heap.size, 0, none⟩) 0 0, .pointer (some ⟨g2, 1, none⟩), .slice ap n cp, .slice (some ⟨b, 0, none⟩) n c6, .slice (some ⟨b, 0, none⟩) n c6, .int .i64 n, .pointer (some ⟨g2, 2, none⟩), .slice (some ⟨bf, of, none⟩) nf cf, .slice (some ⟨bf, of, none⟩) nf cf, .int .i64 nf, .int .i64 nf, .bool true, .slice (some ⟨bf, of, none⟩) nf cf, .int .i64 nf, .int .i64 ((nf - 1 : Nat) : Int), .pointer (some ⟨bf, of + (nf - 1), none⟩), .int .i64 i, .slice (some ⟨Y0.heap.size, 0, none⟩) 0 0, .slice (some ⟨bf, of, none⟩) nf cf, .int .i64 nf, .int .i64 ((nf - 1 : Nat) : Int), .slice (some ⟨bf, of, none⟩) (nf - 1) cf, .slice af7 (nf - 1) cf7, undef, undef, undef, undef, .int .i64 i, .slice (some ⟨b, 0, none⟩) n c6, .int .i64 i, .pointer (some ⟨b, 0 + i * 43, none⟩), .pointer (some ⟨b, 0 + i * 43 + 1, none⟩), .int .i64 us, .agg #[.int .i64 i, .int .i64 us], .slice (some ⟨b, 0, none⟩) n c6, .int .i64 i, .pointer (some ⟨g11, 1, none⟩), .int .i64 us, .int .i64 (us + 1 : Nat), .agg (enA e d), .agg (plA (⟨true, us + 1, e⟩, d)), .pointer (some ⟨b, 0 + i * 43, none⟩), (cond b0 (.pointer (some ⟨g2, 0, none⟩)) undef), (cond b1 (.int .i64 mo) undef), (cond b2 (.slice (some ⟨b, 0, none⟩) n c6) undef), (cond b3 (.slice af7 (nf - 1) cf7) undef), (cond b4 (.agg (rsA mo (some ⟨b, 0, none⟩) n c6 af7 (nf - 1) cf7)) undef), (cond b5 (.agg #[.int .i64 i, .int .i64 us]) undef)], defers := [] } ∧ K11 g4 g5 28 33 (rsA 0 none 0 0 none 0 0) (rsA mo (some ⟨b, 0, none⟩) n c6 af7 (nf - 1) cf7) #[.int .i64 0, .int .i64 0] #[.int .i64 i, .int .i64 us] b6 b7 V6 V) (by kernel_rfl) (by kernel_rfl) ?_ ?_ ?_
  ·exact ⟨false, false, false, false, false, false, false, false, false, rfl, rfl, h0⟩
  ·intro i9 listed act9 V hi9 hr hJ
   obtain ⟨b0, b1, b2, b3, b4, b5, b6, b7, b8, rfl, rfl, hF⟩ := hJ
   have hi2 : i9 < 9 := hi9
   have hi3 : i9 = 0 ∨ i9 = 1 ∨ i9 = 2 ∨ i9 = 3 ∨ i9 = 4 ∨ i9 = 5 ∨ i9 = 6 ∨ i9 = 7 ∨ i9 = 8 := by omega
   rcases hi3 with rfl | rfl | rfl | rfl | rfl | rfl | rfl | rfl | rfl
   ·obtain rfl : b0 = false := ready_self hr
    refine st_val rfl (by kernel_rfl) (some 61) rfl (.pointer (some ⟨g2, 0, none⟩)) V (by kernel_rfl) ?_
    exact ⟨true, b1, b2, b3, b4, b5, b6, b7, b8, rfl, rfl, hF⟩
   ·obtain rfl : b1 = false := ready_self hr
    obtain rfl : b0 = true := ready_dep hr 0 (by kernel_rfl)
    refine st_load rfl (by kernel_rfl) (some 62) rfl 3 (.tmp 61) rfl ⟨g2, 0, none⟩ (.int .i64 mo) (by kernel_rfl) ((hF.bx HX2.out HG.out.2.2.1 HG.out.2.2.2.1).load (i := 0) rfl (by kernel_rfl)) ?_
    exact ⟨true, true, b2, b3, b4, b5, b6, b7, b8, rfl, rfl, hF⟩
   ·obtain rfl : b2 = false := ready_self hr
    refine st_val rfl (by kernel_rfl) (some 63) rfl (.slice (some ⟨b, 0, none⟩) n c6) V (by kernel_rfl) ?_
    exact ⟨b0, b1, true, b3, b4, b5, b6, b7, b8, rfl, rfl, hF⟩
   ·obtain rfl : b3 = false := ready_self hr
    refine st_val rfl (by kernel_rfl) (some 64) rfl (.slice af7 (nf - 1) cf7) V (by kernel_rfl) ?_
    exact ⟨b0, b1, b2, true, b4, b5, b6, b7, b8, rfl, rfl, hF⟩
   ·obtain rfl : b4 = false := ready_self hr
    obtain rfl : b1 = true := ready_dep hr 1 (by kernel_rfl)
    obtain rfl : b2 = true := ready_dep hr 2 (by kernel_rfl)
    obtain rfl : b3 = true := ready_dep hr 3 (by kernel_rfl)
    refine st_val rfl (by kernel_rfl) (some 65) rfl (.agg (rsA mo (some ⟨b, 0, none⟩) n c6 af7 (nf - 1) cf7)) V (by kernel_rfl) ?_
    exact ⟨b0, true, true, true, true, b5, b6, b7, b8, rfl, rfl, hF⟩
   ·obtain rfl : b5 = false := ready_self hr
    refine st_load rfl (by kernel_rfl) (some 66) rfl 33 (.tmp 11) rfl ⟨g11, 0, none⟩ (.agg #[.int .i64 i, .int .i64 us]) (by kernel_rfl) (load_hn (x := ((i : Int), (us : Int))) (bx_range (cs := hnl ((i : Int), (us : Int))) (hF.bx HX11.out (by have := HG11.out; have := HG3.out; omega) (by have := HG11.out; have := HG3.out; omega)))) ?_
    exact ⟨b0, b1, b2, b3, b4, true, b6, b7, b8, rfl, rfl, hF⟩
   ·obtain rfl : b6 = false := ready_self hr
    obtain rfl : b4 = true := ready_dep hr 4 (by kernel_rfl)
    obtain ⟨V2, hst, hF2⟩ := hF.s4 HG.out.2.2.2.2.2.2.1 rfl (rs_one _ _ _ _ _ _ _) (by kernel_rfl)
    refine st_storeA rfl (by kernel_rfl) rfl 28 (.tmp 4) (.tmp 65) rfl (.pointer (some ⟨g4, 0, none⟩)) (.agg (rsA mo (some ⟨b, 0, none⟩) n c6 af7 (nf - 1) cf7)) (by kernel_rfl) (by kernel_rfl) V2 hst ?_
    exact ⟨b0, b1, b2, b3, true, b5, true, b7, b8, rfl, rfl, hF2⟩
   ·obtain rfl : b7 = false := ready_self hr
    obtain rfl : b5 = true := ready_dep hr 5 (by kernel_rfl)
    obtain ⟨V2, hst, hF2⟩ := hF.s5 HG.out.2.2.2.2.2.2.1 rfl (by simp [Value.oneCell']) (by kernel_rfl)
    refine st_storeA rfl (by kernel_rfl) rfl 33 (.tmp 5) (.tmp 66) rfl (.pointer (some ⟨g5, 0, none⟩)) (.agg #[.int .i64 i, .int .i64 us]) (by kernel_rfl) (by kernel_rfl) V2 hst ?_
    exact ⟨b0, b1, b2, b3, b4, true, b6, true, b8, rfl, rfl, hF2⟩
   ·obtain rfl : b8 = false := ready_self hr
    refine st_val rfl (by kernel_rfl) (some 6) rfl (.bool true) V (by kernel_rfl) ?_
    exact ⟨b0, b1, b2, b3, b4, b5, b6, b7, true, rfl, rfl, hF⟩
  ·intro act9 V hJ
   obtain ⟨b0, b1, b2, b3, b4, b5, b6, b7, b8, he, rfl, hF⟩ := hJ
   have he : (#[true, true, true, true, true, true, true, true, true] : Array Bool) = #[b0, b1, b2, b3, b4, b5, b6, b7, b8] := he
   simp only [Array.mk.injEq, List.cons.injEq, and_true] at he
   obtain ⟨rfl, rfl, rfl, rfl, rfl, rfl, rfl, rfl, rfl⟩ := he
   simp only [cond_true]
   have hrZ : RowP V w.heap.size (.slice (some ⟨b, 0, none⟩) n c6) (L.set i (⟨true, us + 1, e⟩, d)) := own_base (own_same2 hr10 fun x hx => by cases hx; exact hF.but b (hr10.lt b rfl).2 (by have := HG.out; omega) (by have := HG.out; omega)) HB1.out.size
   have hE : Below w.heap.size w V := HB6.out.trans (hF.bel.mono (by have := HG.out; omega))
   have hY4 := hF.x4
   have hY5 := hF.x5
   have hfree : V.ownsRow w.heap.size 3 1 (.slice af7 (nf - 1) cf7) (nf - 1) (icells (F.take (nf - 1))) := (own_base (own_same HFR6.out fun x hx => hF.but _ (HFR6.out.lt x.block (by rw [hx]; rfl)).2 (by have := (HFR6.out.lt x.block (by rw [hx]; rfl)).1; have := HYR.out; have := HG.out; omega) (by have := (HFR6.out.lt x.block (by rw [hx]; rfl)).1; have := HYR.out; have := HG.out; omega)) (by have := HYR.out; have := HB.out.size; omega))
   have HE := Lib.hid (And.intro hrZ (And.intro hfree hE))
   clear hrZ hE hfree hF hr10
   go_wp2_with fail
   exact bodyPost_ret (results_2ct rfl (by kernel_rfl) (load_rs hY4) (by kernel_rfl) (load_hn (x := ((i : Int), (us : Int))) (bx_range (cs := hnl ((i : Int), (us : Int))) hY5)) (by kernel_rfl)) rfl ⟨_, _, _, _, rfl, HE.out⟩
set_option maxRecDepth 100000 in
set_option maxHeartbeats 8000000 in
theorem radd_new {w : World} {ap af : Option Addr} {n cp nf cf cn : Nat} {mo : Int} {e : En} {d : Ad} (CC : ∀ V, Below w.heap.size w V → Calls Try.prog 12 #[.agg (rsA mo ap n cp af nf cf)] V fun e w' => e = .returned (.int .i64 cn) ∧ Below V.heap.size V w') {L : List (Pn × Ad)} (hfull : ¬ mo ≤ (cn : Int)) (hpl : Cs w ap (L.flatMap pll)) (hn : L.length = n) (hn2 : n ≤ 512) {i us : Nat} (hus : us ≤ 1000000) (hnf : nf = 0) (hi : i = n) (hu7 : ((L ++ [zPA]).getD i zPA).1.us = us) : Calls Try.prog 29 #[.agg (rsA mo ap n cp af nf cf), .agg (enA e d)] w fun r w' => ∃ (a7 : Option Addr) (c7 : Nat) (af7 : Option Addr) (cf7 : Nat), r = .returned (.tuple #[.agg (rsA mo a7 (n + 1) c7 af7 nf cf7), .agg #[.int .i64 i, .int .i64 us], .bool true]) ∧ RowP w' w.heap.size (.slice a7 (n + 1) c7) ((L ++ [zPA]).set i (⟨true, us + 1, e⟩, d)) ∧ (af7 = af ∧ cf7 = cf) ∧ Below w.heap.size w w' := by
 subst hnf
 obtain rfl := hi
 have HPL := Lib.hid hpl
 have HLN := Lib.hid hn
 have HU7 := Lib.hid hu7
 have HNB : Hid (i ≤ 512 ∧ us ≤ 1000000) := Lib.hid ⟨hn2, hus⟩
 clear hpl hn hu7 hn2 hus
 go_enter Try.func29, Try.ntmps29
 go_upto_region 1 with fail
 change Code.wp _ _ _ _ ((((w.alloc (.cells (rsA mo ap i cp af 0 cf) 28)).alloc (.cells (enA e d) 44)).alloc (.cells (rsA 0 none 0 0 none 0 0) 28)).alloc (.cells #[.int .i64 0, .int .i64 0] 33))
 have hb1 : Below w.heap.size w (w.alloc (.cells (rsA mo ap i cp af 0 cf) 28)) := (Below.refl _ w).alloc (Nat.le_refl _) _
 have hX2 : Bx (w.alloc (.cells (rsA mo ap i cp af 0 cf) 28)) w.heap.size (rsA mo ap i cp af 0 cf) 28 := heap_alloc_last w _
 have hs1 : (w.alloc (.cells (rsA mo ap i cp af 0 cf) 28)).heap.size = w.heap.size + 1 := by simp
 generalize (w.alloc (.cells (rsA mo ap i cp af 0 cf) 28)) = W1 at *
 have hb2 : Below w.heap.size w (W1.alloc (.cells (enA e d) 44)) := hb1.alloc hb1.size _
 have hX2 : Bx (W1.alloc (.cells (enA e d) 44)) w.heap.size (rsA mo ap i cp af 0 cf) 28 := hX2.below hX2.lt ((Below.refl _ W1).alloc (Nat.le_refl _) _)
 have hX3 : Bx (W1.alloc (.cells (enA e d) 44)) W1.heap.size (enA e d) 44 := heap_alloc_last W1 _
 have hs2 : (W1.alloc (.cells (enA e d) 44)).heap.size = W1.heap.size + 1 := by simp
 generalize (W1.alloc (.cells (enA e d) 44)) = W2 at *
 have hb3 : Below w.heap.size w (W2.alloc (.cells (rsA 0 none 0 0 none 0 0) 28)) := hb2.alloc hb2.size _
 have hX2 : Bx (W2.alloc (.cells (rsA 0 none 0 0 none 0 0) 28)) w.heap.size (rsA mo ap i cp af 0 cf) 28 := hX2.below hX2.lt ((Below.refl _ W2).alloc (Nat.le_refl _) _)
 have hX3 : Bx (W2.alloc (.cells (rsA 0 none 0 0 none 0 0) 28)) W1.heap.size (enA e d) 44 := hX3.below hX3.lt ((Below.refl _ W2).alloc (Nat.le_refl _) _)
 have hX4 : Bx (W2.alloc (.cells (rsA 0 none 0 0 none 0 0) 28)) W2.heap.size (rsA 0 none 0 0 none 0 0) 28 := heap_alloc_last W2 _
 have hs3 : (W2.alloc (.cells (rsA 0 none 0 0 none 0 0) 28)).heap.size = W2.heap.size + 1 := by simp
 generalize (W2.alloc (.cells (rsA 0 none 0 0 none 0 0) 28)) = W3 at *
 have hb0 : Below w.heap.size w (W3.alloc (.cells #[.int .i64 0, .int .i64 0] 33)) := hb3.alloc hb3.size _
 have hX2 : Bx (W3.alloc (.cells #[.int .i64 0, .int .i64 0] 33)) w.heap.size (rsA mo ap i cp af 0 cf) 28 := hX2.below hX2.lt ((Below.refl _ W3).alloc (Nat.le_refl _) _)
 have hX3 : Bx (W3.alloc (.cells #[.int .i64 0, .int .i64 0] 33)) W1.heap.size (enA e d) 44 := hX3.below hX3.lt ((Below.refl _ W3).alloc (Nat.le_refl _) _)
 have hX4 : Bx (W3.alloc (.cells #[.int .i64 0, .int .i64 0] 33)) W2.heap.size (rsA 0 none 0 0 none 0 0) 28 := hX4.below hX4.lt ((Below.refl _ W3).alloc (Nat.le_refl _) _)
 have hX5 : Bx (W3.alloc (.cells #[.int .i64 0, .int .i64 0] 33)) W3.heap.size #[.int .i64 0, .int .i64 0] 33 := heap_alloc_last W3 _
 generalize (W3.alloc (.cells #[.int .i64 0, .int .i64 0] 33)) = W at *
 rw [hs3, hs2, hs1] at hX5
 rw [hs2, hs1] at hX4
 rw [hs1] at hX3
 obtain ⟨g2, hg2⟩ : ∃ g, w.heap.size = g := ⟨_, rfl⟩
 obtain ⟨g3, hg3⟩ : ∃ g, g2 + 1 = g := ⟨_, rfl⟩
 obtain ⟨g4, hg4⟩ : ∃ g, g3 + 1 = g := ⟨_, rfl⟩
 obtain ⟨g5, hg5⟩ : ∃ g, g4 + 1 = g := ⟨_, rfl⟩
 rw [show w.heap.size + 1 = g3 by omega] at hX3
 rw [show w.heap.size + 1 + 1 = g4 by omega] at hX4
 rw [show w.heap.size + 1 + 1 + 1 = g5 by omega] at hX5
 have HG : Hid (w.heap.size ≤ g4 ∧ w.heap.size ≤ g5 ∧ g2 ≠ g4 ∧ g2 ≠ g5 ∧ g3 ≠ g4 ∧ g3 ≠ g5 ∧ g4 ≠ g5 ∧ g4 < W.heap.size ∧ g5 < W.heap.size) := Lib.hid ⟨by omega, by omega, by omega, by omega, by omega, by omega, by omega, by rw [← hg4, ← hg3, ← hg2]; rw [show w.heap.size + 1 + 1 = g4 by omega]; exact hX4.lt, hX5.lt⟩
 rw [hg2] at hX2
 simp only [hg2]
 simp only [hg3]
 simp only [hg4]
 simp only [hg5]
 have HG2 : Hid (g2 < W.heap.size ∧ g3 < W.heap.size) := Lib.hid ⟨hX2.lt, hX3.lt⟩
 have HG3 : Hid (g4 < W.heap.size ∧ g5 < W.heap.size ∧ W.heap.size ≤ W.heap.size) := Lib.hid ⟨HG.out.2.2.2.2.2.2.2.1, HG.out.2.2.2.2.2.2.2.2, Nat.le_refl _⟩
 have HB := Lib.hid hb0
 clear hb1 hb2 hb3 hs1 hs2 hs3 hb0 hg2 hg3 hg4 hg5
 have CW := fun U (hU : Below W.heap.size W U) => (CC U (HB.out.trans (hU.mono HB.out.size))).mono fun e w' z => (⟨z.1, hU.trans (z.2.mono hU.size)⟩ : e = .returned (.int .i64 cn) ∧ Below W.heap.size W w')
 clear CC
 go_upto_region 1 with fail
 refine wp_region_class (C := fun U => Below W.heap.size W U) (by kernel_rfl) (by kernel_rfl) ((Below.refl _ W).drew) ?_
 refine gyl rfl ⟨g2, 0, none⟩ (.agg (rsA mo ap i cp af 0 cf)) (fun U hU => load_rs (hX2.below hX2.lt hU)) ?_
 simp only [pu]
 refine gq_call (by kernel_rfl) (some 13) rfl 12 #[.agg (rsA mo ap i cp af 0 cf)] (.int .i64 cn) (fun U hU => by kernel_rfl) (CW) ?_
 simp only [pu]
 refine gy (.pointer (some ⟨g2, 0, none⟩)) <| gyl rfl ⟨g2, 0, none⟩ (.int .i64 mo) (fun U hU => (hX2.below hX2.lt hU).load (i := 0) rfl (by kernel_rfl)) <| gyv (.bool false) (fun U hU => geq_n rfl (cn) (mo) (decide_eq_false (hfull)) (by kernel_rfl) (by kernel_rfl) U) ?_
 simp only [pu]
 apply wpQuiet_nil
 intro Y1 hV
 clear CW
 have hX2V := hX2.below hX2.lt hV
 have hX3V := hX3.below hX3.lt hV
 have hX4V := hX4.below hX4.lt hV
 have hX5V := hX5.below hX5.lt hV
 have HB1 := Lib.hid (HB.out.trans (hV.mono HB.out.size))
 have HWS : Hid (W.heap.size ≤ Y1.heap.size) := Lib.hid hV.size
 obtain ⟨a6, c6, Y2, hap, hr6, hb6⟩ := copy_pl (c := cp) (HPL.out.below HB1.out) (by rw [HLN.out]; have := HNB.out; omega)
 rw [HLN.out] at hap hr6
 have hbd := nil_pl Y1
 have HB2 := Lib.hid (HB1.out.trans (hb6.mono HB1.out.size))
 have hX2W := hX2V.below hX2V.lt hb6
 have hX3W := hX3V.below hX3V.lt hb6
 have hX4W := hX4V.below hX4V.lt hb6
 have hX5W := hX5V.below hX5V.lt hb6
 have HY2 : Hid (Y1.heap.size ≤ Y2.heap.size) := Lib.hid hb6.size
 clear hV hX2 hX3 hX4 hX5 hX3V hX4V hX5V hb6
 have hX2N := hX2V.below hX2V.lt ((Below.refl _ Y1).alloc (Nat.le_refl _) (.cells #[] 73))
 go_upto_region 3 with fail
 apply wp_region_lit
 refine gw_build (by kernel_rfl) (some 19) rfl 26 0 #[] rfl #[] (by kernel_rfl) (.slice (some ⟨Y1.heap.size, 0, none⟩) 0 0) _ hbd ?_
 simp only [pu]
 refine gz1 (.pointer (some ⟨g2, 1, none⟩)) <| gzl rfl ⟨g2, 1, none⟩ (.slice ap i cp) (hX2N.load (i := 1) rfl (by kernel_rfl)) ?_
 simp only [pu]
 refine append_step rfl (some 22) rfl 26 rfl (.tmp 19) (.tmp 21) 26 rfl (.slice (some ⟨Y1.heap.size, 0, none⟩) 0 0) (.slice ap i cp) (.slice a6 i c6) Y2 (by kernel_rfl) (by kernel_rfl) hap ?_
 simp only [pu]
 refine gz1 (.slice a6 i c6) <| wn ?_
 simp only [pu]
 clear hap hbd hX2V hX2N
 go_upto_region 4 with fail
 refine wp_region_class (C := fun U => Below Y2.heap.size Y2 U) (by kernel_rfl) (by kernel_rfl) ((Below.refl _ Y2).drew) ?_
 refine gy (.slice a6 i c6) <| gy (.int .i64 i) <| gy (.pointer (some ⟨g2, 2, none⟩)) <| gyl rfl ⟨g2, 2, none⟩ (.slice af 0 cf) (fun U hU => (hX2W.below hX2W.lt hU).load (i := 2) rfl (by kernel_rfl)) <| gy (.int .i64 i) <| gy (.slice af 0 cf) ?_
 simp only [pu]
 apply wpQuiet_nil
 intro Y3 hV3
 have hX2V := hX2W.below hX2W.lt hV3
 have hX3V := hX3W.below hX3W.lt hV3
 have hX4V := hX4W.below hX4W.lt hV3
 have hX5V := hX5W.below hX5W.lt hV3
 have hr7 := hr6.below hV3
 have HB3 := Lib.hid (HB2.out.trans (hV3.mono HB2.out.size))
 have HY3 : Hid (Y2.heap.size ≤ Y3.heap.size) := Lib.hid hV3.size
 clear hV3 hX2W hX3W hX4W hX5W hr6
 go_upto_region 5 with fail
 refine wl <| gz3 (.slice af 0 cf) (.int .i64 0) (.int .i64 0) <| wn ?_
 simp only [pu]
 go_upto_region 6 with fail
 refine wl <| gz1 (.int .i64 0) <| gzb (gtr_n rfl ((0 : Nat)) (0) dF) <| wn ?_
 simp only [pu]
 obtain ⟨a7, c7, Y4, hap, hr8, hb8⟩ := push_pl hr7 HLN.out.symm (Nat.le_trans HY2.out HY3.out) zPA (by have := HNB.out; omega)
 have hbd := build_pl zPA Y3
 have HB4 := Lib.hid (HB3.out.trans (hb8.mono HB1.out.size))
 have hX2W := hX2V.below (Nat.lt_of_lt_of_le HG2.out.1 HWS.out) hb8
 have hX3W := hX3V.below (Nat.lt_of_lt_of_le HG2.out.2 HWS.out) hb8
 have hX4W := hX4V.below (Nat.lt_of_lt_of_le HG.out.2.2.2.2.2.2.2.1 HWS.out) hb8
 have hX5W := hX5V.below (Nat.lt_of_lt_of_le HG.out.2.2.2.2.2.2.2.2 HWS.out) hb8
 clear hr7 hb8 hX2V hX3V hX4V hX5V
 go_upto_region 8 with fail
 refine wl <| gz2 (.slice a6 i c6) (.agg (plA zPA)) ?_
 simp only [pu]
 refine gw_build (by kernel_rfl) (some 44) rfl 26 1 #[(0, .tmp 43)] rfl #[(0, .agg (plA zPA))] (by kernel_rfl) (.slice (some ⟨Y3.heap.size, 0, none⟩) 1 1) _ hbd ?_
 simp only [pu]
 refine append_step rfl (some 45) rfl 26 rfl (.tmp 42) (.tmp 44) 26 rfl (.slice a6 i c6) (.slice (some ⟨Y3.heap.size, 0, none⟩) 1 1) (.slice a7 (i + 1) c7) Y4 (by kernel_rfl) (by kernel_rfl) hap ?_
 simp only [pu]
 refine gz1 (.slice a7 (i + 1) c7) <| wn ?_
 simp only [pu]
 clear hap hbd
 have hil : i < (L ++ [zPA]).length := by rw [List.length_append, List.length_singleton, HLN.out]; omega
 have HFR : Hid (af = af ∧ cf = cf) := Lib.hid ⟨rfl, rfl⟩
 obtain ⟨b, hab, hBb, hrg⟩ := hr8.rg hil
 obtain rfl := hab
 obtain ⟨z9, hz9⟩ : ∃ z, ((L ++ [zPA]).getD i zPA) = z := ⟨_, rfl⟩
 have hu9 := HU7.out
 rw [hz9] at hrg hu9
 obtain ⟨V5, hst5, hb5, hX11⟩ := new_bx (c := #[.int .i64 0, .int .i64 0]) (c' := #[.int .i64 i, .int .i64 us]) (ty := 33) Y4 rfl (by simp [Value.oneCell']) (by kernel_rfl)
 obtain ⟨g11, hg11⟩ : ∃ g, Y4.heap.size = g := ⟨_, rfl⟩
 have HG11 : Hid (g11 = Y4.heap.size) := Lib.hid hg11.symm
 go_upto_region 9 with fail
 refine wl <| gz3 (.int .i64 i) (.slice (some ⟨b, 0, none⟩) (i + 1) c7) (.int .i64 i) <| gzv (.pointer (some ⟨b, 0 + i * 43, none⟩)) (idx_pl b 0 (i + 1) c7 i (by omega) _ _ _ rfl (by kernel_rfl) (by kernel_rfl)) <| gz1 (.pointer (some ⟨b, 0 + i * 43 + 1, none⟩)) <|
  gzl rfl ⟨b, 0 + i * 43 + 1, none⟩ (.int .i64 us) (rg_cell hrg (j := 1) (by rw [← hu9]; rfl) (by kernel_rfl)) <| gz1 (.agg #[.int .i64 i, .int .i64 us]) ?_
 simp only [pu]
 refine run_to rfl (some 11) rfl (.pointer (some ⟨Y4.heap.size, 0, none⟩)) (Y4.alloc (.cells (#[.int .i64 0, .int .i64 0]) 33)) (by kernel_rfl) ?_
 simp only [pu]
 refine gzs rfl (hst5) <| wn ?_
 rw [hg11] at hX11 ⊢
 have hr9 := hr8.below hb5
 have hX2V := hX2W.below hX2W.lt hb5
 have hX3V := hX3W.below hX3W.lt hb5
 have hX4V := hX4W.below hX4W.lt hb5
 have hX5V := hX5W.below hX5W.lt hb5
 have HB5 := Lib.hid (HB4.out.trans (hb5.mono HB4.out.size))
 obtain ⟨V6, hst6, hr10, hb10, hbt10⟩ := set_pl hr9 (by simp [HLN.out]) (i := i) hil hBb (⟨true, us + 1, e⟩, d)
 have hbW : W.heap.size ≤ b := by have := HWS.out; omega
 have hX2Z := hX2V.but hbt10 (by have := HG2.out; omega)
 have hX3Z := hX3V.but hbt10 (by have := HG2.out; omega)
 have hX4Z := hX4V.but hbt10 (by have := HG.out; omega)
 have hX5Z := hX5V.but hbt10 (by have := HG.out; omega)
 have hbY : b < Y4.heap.size := (hr8.lt b rfl).2
 have hX11Z := hX11.but hbt10 (by have := HG11.out; omega)
 have HB6 := Lib.hid (HB5.out.trans (hb10.mono HB1.out.size))
 clear hst5 hb5 hrg hr8 hX2W hX3W hX4W hX5W hr9 hX4V hX5V hX2V hg11 hb10 hbt10
 go_upto_region 10 with fail
 refine wl <| gz3 (.slice (some ⟨b, 0, none⟩) (i + 1) c7) (.int .i64 i) (.pointer (some ⟨g11, 1, none⟩)) <| gzl rfl ⟨g11, 1, none⟩ (.int .i64 us) (hX11.load (i := 1) rfl (by kernel_rfl)) <| gzv (.int .i64 (us + 1 : Nat)) (add_one rfl us (by have := HNB.out; omega) (by kernel_rfl) _) <|
  gzl rfl ⟨g3, 0, none⟩ (.agg (enA e d)) (load_en (bx_range hX3V)) <| gz1 (.agg (plA (⟨true, us + 1, e⟩, d))) <| gzv (.pointer (some ⟨b, 0 + i * 43, none⟩)) (idx_pl b 0 (i + 1) c7 i (by omega) _ _ _ rfl (by kernel_rfl) (by kernel_rfl)) <| gzs rfl (hst6) <| wn ?_
 simp only [pu]
 clear hst6 hX3V hX11
 have h0 := K11.start (c4 := rsA mo (some ⟨b, 0, none⟩) (i + 1) c7 af 0 cf) (c5 := #[.int .i64 i, .int .i64 us]) hX4Z hX5Z
 have HX2 := Lib.hid hX2Z
 have HX11 := Lib.hid hX11Z
 clear hX2Z hX3Z hX4Z hX5Z hX11Z
 go_upto_region 11 with fail
 refine wp_region_inv (fun listed act9 V => ∃ b0 b1 b2 b3 b4 b5 b6 b7 b8 : Bool, listed = #[b0, b1, b2, b3, b4, b5, b6, b7, b8] ∧ act9 = { tmps := #[.agg (rsA mo ap i cp af 0 cf), .agg (enA e d), .pointer (some ⟨g2, 0, none⟩), .pointer (some ⟨g3, 0, none⟩), .pointer (some ⟨g4, 0, none⟩), .pointer (some ⟨g5, 0, none⟩), (cond b8 (.bool true) (.bool false)), .slice (some ⟨b, 0, none⟩) (i + 1) c7, .int .i64 i, .slice af 0 cf, .int .i64 0, .pointer (some ⟨g11, 0, none⟩), .agg (rsA mo ap i cp af 0 cf), .int .i64 cn, .pointer (some ⟨g2, 0, none⟩), .int .i64 mo, .bool false, undef, undef, .slice (some ⟨Y1.heap.size, 0, none⟩) 0 0, .pointer (some ⟨g2, 1, none⟩), .slice ap i cp, .slice a6 i c6, .slice a6 i c6, .int .i64 i, .pointer (some ⟨g2, 2, none⟩), .slice af 0 cf, .slice af 0 cf, .int .i64 0, .int .i64 0, .bool false, undef, undef, undef, undef, undef, undef, undef, undef, undef, undef, undef, .slice a6 i c6, .agg (plA zPA), .slice (some ⟨Y3.heap.size, 0, none⟩) 1 1, .slice (some ⟨b, 0, none⟩) (i + 1) c7, .int .i64 i, .slice (some ⟨b, 0, none⟩) (i + 1) c7, .int .i64 i, .pointer (some ⟨b, 0 + i * 43, none⟩), .pointer (some ⟨b, 0 + i * 43 + 1, none⟩), .int .i64 us, .agg #[.int .i64 i, .int .i64 us], .slice (some ⟨b, 0, none⟩) (i + 1) c7, .int .i64 i, .pointer (some ⟨g11, 1, none⟩), .int .i64 us, .int .i64 (us + 1 : Nat), .agg (enA e d), .agg (plA (⟨true, us + 1, e⟩, d)), .pointer (some ⟨b, 0 + i * 43, none⟩), (cond b0 (.pointer (some ⟨g2, 0, none⟩)) undef), (cond b1 (.int .i64 mo) undef), (cond b2 (.slice (some ⟨b, 0, none⟩) (i + 1) c7) undef), (cond b3 (.slice af 0 cf) undef), (cond b4 (.agg (rsA mo (some ⟨b, 0, none⟩) (i + 1) c7 af 0 cf)) undef), (cond b5 (.agg #[.int .i64 i, .int .i64 us]) undef)], defers := [] } ∧ K11 g4 g5 28 33 (rsA 0 none 0 0 none 0 0) (rsA mo (some ⟨b, 0, none⟩) (i + 1) c7 af 0 cf) #[.int .i64 0, .int .i64 0] #[.int .i64 i, .int .i64 us] b6 b7 V6 V) (by kernel_rfl) (by kernel_rfl) ?_ ?_ ?_
 ·exact ⟨false, false, false, false, false, false, false, false, false, rfl, rfl, h0⟩
 ·intro i9 listed act9 V hi9 hr hJ
  obtain ⟨b0, b1, b2, b3, b4, b5, b6, b7, b8, rfl, rfl, hF⟩ := hJ
  have hi2 : i9 < 9 := hi9
  have hi3 : i9 = 0 ∨ i9 = 1 ∨ i9 = 2 ∨ i9 = 3 ∨ i9 = 4 ∨ i9 = 5 ∨ i9 = 6 ∨ i9 = 7 ∨ i9 = 8 := by omega
  rcases hi3 with rfl | rfl | rfl | rfl | rfl | rfl | rfl | rfl | rfl
  ·obtain rfl : b0 = false := ready_self hr
   refine st_val rfl (by kernel_rfl) (some 61) rfl (.pointer (some ⟨g2, 0, none⟩)) V (by kernel_rfl) ?_
   exact ⟨true, b1, b2, b3, b4, b5, b6, b7, b8, rfl, rfl, hF⟩
  ·obtain rfl : b1 = false := ready_self hr
   obtain rfl : b0 = true := ready_dep hr 0 (by kernel_rfl)
   refine st_load rfl (by kernel_rfl) (some 62) rfl 3 (.tmp 61) rfl ⟨g2, 0, none⟩ (.int .i64 mo) (by kernel_rfl) ((hF.bx HX2.out HG.out.2.2.1 HG.out.2.2.2.1).load (i := 0) rfl (by kernel_rfl)) ?_
   exact ⟨true, true, b2, b3, b4, b5, b6, b7, b8, rfl, rfl, hF⟩
  ·obtain rfl : b2 = false := ready_self hr
   refine st_val rfl (by kernel_rfl) (some 63) rfl (.slice (some ⟨b, 0, none⟩) (i + 1) c7) V (by kernel_rfl) ?_
   exact ⟨b0, b1, true, b3, b4, b5, b6, b7, b8, rfl, rfl, hF⟩
  ·obtain rfl : b3 = false := ready_self hr
   refine st_val rfl (by kernel_rfl) (some 64) rfl (.slice af 0 cf) V (by kernel_rfl) ?_
   exact ⟨b0, b1, b2, true, b4, b5, b6, b7, b8, rfl, rfl, hF⟩
  ·obtain rfl : b4 = false := ready_self hr
   obtain rfl : b1 = true := ready_dep hr 1 (by kernel_rfl)
   obtain rfl : b2 = true := ready_dep hr 2 (by kernel_rfl)
   obtain rfl : b3 = true := ready_dep hr 3 (by kernel_rfl)
   refine st_val rfl (by kernel_rfl) (some 65) rfl (.agg (rsA mo (some ⟨b, 0, none⟩) (i + 1) c7 af 0 cf)) V (by kernel_rfl) ?_
   exact ⟨b0, true, true, true, true, b5, b6, b7, b8, rfl, rfl, hF⟩
  ·obtain rfl : b5 = false := ready_self hr
   refine st_load rfl (by kernel_rfl) (some 66) rfl 33 (.tmp 11) rfl ⟨g11, 0, none⟩ (.agg #[.int .i64 i, .int .i64 us]) (by kernel_rfl) (load_hn (x := ((i : Int), (us : Int))) (bx_range (cs := hnl ((i : Int), (us : Int))) (hF.bx HX11.out (by have := HG11.out; have := HG3.out; omega) (by have := HG11.out; have := HG3.out; omega)))) ?_
   exact ⟨b0, b1, b2, b3, b4, true, b6, b7, b8, rfl, rfl, hF⟩
  ·obtain rfl : b6 = false := ready_self hr
   obtain rfl : b4 = true := ready_dep hr 4 (by kernel_rfl)
   obtain ⟨V2, hst, hF2⟩ := hF.s4 HG.out.2.2.2.2.2.2.1 rfl (rs_one _ _ _ _ _ _ _) (by kernel_rfl)
   refine st_storeA rfl (by kernel_rfl) rfl 28 (.tmp 4) (.tmp 65) rfl (.pointer (some ⟨g4, 0, none⟩)) (.agg (rsA mo (some ⟨b, 0, none⟩) (i + 1) c7 af 0 cf)) (by kernel_rfl) (by kernel_rfl) V2 hst ?_
   exact ⟨b0, b1, b2, b3, true, b5, true, b7, b8, rfl, rfl, hF2⟩
  ·obtain rfl : b7 = false := ready_self hr
   obtain rfl : b5 = true := ready_dep hr 5 (by kernel_rfl)
   obtain ⟨V2, hst, hF2⟩ := hF.s5 HG.out.2.2.2.2.2.2.1 rfl (by simp [Value.oneCell']) (by kernel_rfl)
   refine st_storeA rfl (by kernel_rfl) rfl 33 (.tmp 5) (.tmp 66) rfl (.pointer (some ⟨g5, 0, none⟩)) (.agg #[.int .i64 i, .int .i64 us]) (by kernel_rfl) (by kernel_rfl) V2 hst ?_
   exact ⟨b0, b1, b2, b3, b4, true, b6, true, b8, rfl, rfl, hF2⟩
  ·obtain rfl : b8 = false := ready_self hr
   refine st_val rfl (by kernel_rfl) (some 6) rfl (.bool true) V (by kernel_rfl) ?_
   exact ⟨b0, b1, b2, b3, b4, b5, b6, b7, true, rfl, rfl, hF⟩
 ·intro act9 V hJ
  obtain ⟨b0, b1, b2, b3, b4, b5, b6, b7, b8, he, rfl, hF⟩ := hJ
  have he : (#[true, true, true, true, true, true, true, true, true] : Array Bool) = #[b0, b1, b2, b3, b4, b5, b6, b7, b8] := he
  simp only [Array.mk.injEq, List.cons.injEq, and_true] at he
  obtain ⟨rfl, rfl, rfl, rfl, rfl, rfl, rfl, rfl, rfl⟩ := he
  simp only [cond_true]
  have hrZ : RowP V w.heap.size (.slice (some ⟨b, 0, none⟩) (i + 1) c7) ((L ++ [zPA]).set i (⟨true, us + 1, e⟩, d)) := own_base (own_same2 hr10 fun x hx => by cases hx; exact hF.but b (hr10.lt b rfl).2 (by have := HG.out; omega) (by have := HG.out; omega)) HB1.out.size
  have hE : Below w.heap.size w V := HB6.out.trans (hF.bel.mono (by have := HG.out; omega))
  have hY4 := hF.x4
  have hY5 := hF.x5
  have hfree : True := trivial
  have HE := Lib.hid (And.intro hrZ (And.intro hfree hE))
  clear hrZ hE hfree hF hr10
  go_wp2_with fail
  exact bodyPost_ret (results_2ct rfl (by kernel_rfl) (load_rs hY4) (by kernel_rfl) (load_hn (x := ((i : Int), (us : Int))) (bx_range (cs := hnl ((i : Int), (us : Int))) hY5)) (by kernel_rfl)) rfl ⟨_, _, _, _, rfl, HE.out.1, ⟨rfl, rfl⟩, HE.out.2.2⟩
end Go.Proofs.Ytmpajgaanghpoaa
