/-
 The statements' numbers; the fixed example; what a walk over a queue keeps.
-/
import Derived.Test.YtdjphghoollejaaPD
namespace Go.Proofs.Ytdjphghoollejaa
attribute [local irreducible] wpList wpQuiet
open Go.RowKit
set_option maxRecDepth 100000
set_option linter.unusedSimpArgs false
set_option linter.unusedVariables false

/-- The numbers: N were used. -/
def Nm (w : World) (g : Nat) (a : Option Addr) (c : Nat) (L : List Int) (N : Nat) : Prop := Bx w g #[.slice a L.length c, .int .i64 N] 32 ∧ Cs w a (icells L) ∧ (L ≠ [] → ∀ x, a = some x → x.block < g)
section
variable {w w' : World} {g c N q : Nat} {a : Option Addr} {L : List Int}
theorem Nm.lt (h : Nm w g a c L N) : g < w.heap.size := h.1.lt
theorem Nm.below (h : Nm w g a c L N) (hb : Below w.heap.size w w') : Nm w' g a c L N := ⟨h.1.below h.1.lt hb, h.2.1.below hb, h.2.2⟩
theorem cs_but0 {cs : List Value} (h : Cs w a cs) (hb : But q w w') (hn : cs ≠ [] → ∀ x, a = some x → x.block ≠ q) : Cs w' a cs := by
 cases cs with
 | nil => exact Cs.nil _ _
 | cons x r => exact h.but hb (hn (by simp))
theorem ic_ne (h : icells L ≠ []) : L ≠ [] := fun e => h (by rw [e]; rfl)
theorem Nm.but (h : Nm w g a c L N) (hb : But q w w') (hq : g < q) : Nm w' g a c L N := ⟨h.1.but hb (by omega), cs_but0 h.2.1 hb (fun hn x hx => by have := h.2.2 (ic_ne hn) x hx; omega), h.2.2⟩
theorem Nm.low (h : Nm w g a c L N) {B : Nat} (hb : Below B w w') (hg : g < B) : Nm w' g a c L N := ⟨h.1.below hg hb, cs_same h.2.1 fun k hk => hb.block k (by obtain ⟨hn, x, hx, rfl⟩ := hk; have := h.2.2 (ic_ne hn) x hx; omega), h.2.2⟩
theorem Nm.buts {B : Nat} {S : Nat → Prop} (h : Nm w g a c L N) (hb : ButS B S w w') (hg : g < B) : Nm w' g a c L N := h.low hb.1 hg
theorem nx (h : Nm w g a c L N) (hl : L.length ≤ 100000) (hN : N ≤ 100000) (n : Int) (hn : 0 < n) (hn2 : n ≤ 1000000) : Calls Try.prog 9 #[.pointer (some ⟨g, 0, none⟩), .int .i64 n] w fun e w' => (∃ v : Nat, e = .returned (.int .i64 v) ∧ (v : Int) < n ∧ (v : Int) = pl (L.getD N 0) n) ∧ Nm w' g a c L (N + 1) ∧ But g w w' :=
 (mk_next g L a c N n w h.1 h.2.1 hl hN hn hn2).mono fun e w' z => by
  have hp := pl_range (L.getD N 0) n hn
  obtain ⟨z1, z2, z3⟩ := z
  have hv : ((pl (L.getD N 0) n).toNat : Int) = pl (L.getD N 0) n := by omega
  exact ⟨⟨(pl (L.getD N 0) n).toNat, by rw [z1, hv], by omega, hv⟩, ⟨z3, cs_but0 h.2.1 z2 (fun hn x hx => by have := h.2.2 (ic_ne hn) x hx; omega), h.2.2⟩, z2⟩
end
theorem nx2 {w : World} {g c N : Nat} {a : Option Addr} {L : List Int} (h : Nm w g a c L N) (hl : L.length ≤ 100000) (hN : N ≤ 100000) (n : Int) (hn : 0 < n) (hn2 : n ≤ 1000000) : Calls Try.prog 9 #[.pointer (some ⟨g, 0, none⟩), .int .i64 n] w fun e w' => ∃ v, e = .returned v ∧ (∃ q : Nat, v = .int .i64 q ∧ (q : Int) < n ∧ Nm w' g a c L (N + 1) ∧ But g w w') := (nx h hl hN n hn hn2).mono fun e w' z => by obtain ⟨⟨q, h1, h2, -⟩, h3, h4⟩ := z; exact ⟨_, h1, q, rfl, h2, h3, h4⟩
theorem neg_i {ρ : Operand → Value} {o : Oper} {x : Operand} (ho : o.op = .unOp .neg 3 x) (a : Nat) (h : a ≤ 1000000) (hx : ρ x = .int .i64 a) (w : World) : (execOp ρ o).run Try.prog w = .ok (.value (.int .i64 (-(a : Int)))) w := by
 have hw : IntKind.i64.wrap (-(a : Int)) = -(a : Int) := by rw [IntKind.wrap_i64]; omega
 unfold execOp
 simp only [ho, hx]
 go_simp
set_option maxHeartbeats 2000000 in
theorem mk_placeB (x n : Int) (w : World) (hn : 0 < n) (hn2 : n ≤ 4611686018427387904) :
  Calls Try.prog 20 #[.int .i64 x, .int .i64 n] w fun e w' => e = .returned (.int .i64 (pl x n)) ∧ w = w' := by
 have hr := tmod_range x n hn
 have hnz : ¬ n = 0 := by omega
 unfold pl
 obtain ⟨r, hr0⟩ : ∃ r, x.tmod n = r := ⟨_, rfl⟩
 have hw : IntKind.i64.wrap r = r := by rw [IntKind.wrap_i64]; omega
 rw [hr0] at hr ⊢
 have HR := Lib.hid hr0
 clear hr0
 obtain ⟨Q, hQ⟩ : ∃ Q, Q = if r < 0 then r + n else r := ⟨_, rfl⟩
 rw [← hQ]
 have HQ := Lib.hid hQ
 clear hQ
 go_enter Try.func20, Try.ntmps20
 go_upto_region 1 with fail
 refine wl <| gz2 (.int .i64 x) (.int .i64 n) <| gzv (.int .i64 (x.tmod n)) (rem_i64 rfl x n hnz (by kernel_rfl) (by kernel_rfl) w) ?_
 rw [HR.out]
 simp only [pu]
 refine gz1 (.int .i64 r) <| wn ?_
 simp only [pu]
 by_cases h0 : r < 0
 ·have hd : decide (r < 0) = true := decide_eq_true h0
  have HQ2 : Hid (Q = r + n) := Lib.hid (by rw [HQ.out, if_pos h0])
  have hw3 : IntKind.i64.wrap (r + n) = r + n := by rw [IntKind.wrap_i64]; omega
  clear HQ HR
  go_wp2_with fail
  go_ret
  exact ⟨by rw [HQ2.out]; rfl, rfl⟩
 ·have hd : decide (r < 0) = false := decide_eq_false h0
  have HQ2 : Hid (Q = r) := Lib.hid (by rw [HQ.out, if_neg h0])
  clear HQ HR
  go_wp2_with fail
  go_ret
  exact ⟨by rw [HQ2.out]; rfl, rfl⟩
set_option maxRecDepth 100000 in
set_option maxHeartbeats 8000000 in
theorem mk_number {w : World} {g c N : Nat} {a : Option Addr} {L : List Int} (h : Nm w g a c L N) (hl : L.length ≤ 100000) (hN : N ≤ 90000) : Calls Try.prog 13 #[.pointer (some ⟨g, 0, none⟩)] w fun e w' => ∃ (q : Int) (N' : Nat), e = .returned (.int .i64 q) ∧ I64 q ∧ N < N' ∧ N' ≤ N + 2 ∧ Nm w' g a c L N' ∧ But g w w' := by
 have HL := Lib.hid hl
 have HNN := Lib.hid hN
 have HN := Lib.hid h
 clear h hl hN
 go_enter Try.func13, Try.ntmps13
 go_upto_region 1 with fail
 refine wl <| gz1 (.pointer (some ⟨g, 0, none⟩)) <| gze (fun v w' => ∃ q : Nat, v = .int .i64 q ∧ (q : Int) < 12 ∧ Nm w' g a c L (N + 1) ∧ But g w w') (nx2 HN.out HL.out (by have := HNN.out; omega) 12 (by first | decide | omega) (by first | decide | omega)) (fun vv V1 hq => ?_)
 obtain ⟨v1, rfl, hv1, hns1, hbt1⟩ := hq
 simp only [pu]
 apply wpList_nil
 have HV1 : Hid (v1 < 12) := Lib.hid (by omega)
 have HN1 := Lib.hid hns1
 have HB1 := Lib.hid hbt1
 clear hns1 hbt1 HN hv1
 by_cases h0 : v1 = 0
 ·skip
  go_upto_region 2 with fail
  refine wl <| gzb (eql_nn rfl v1 0 (decide_eq_true h0)) <| gz1 (.bool true) <| wn ?_
  simp only [pu]
  clear h0
  go_upto_region 3 with fail
  refine wl <| gz1 (.int .i64 (-9223372036854775808)) <| wn ?_
  simp only [pu]
  have HI : Hid (I64 (-9223372036854775808 : Int)) := Lib.hid ⟨by omega, by omega⟩
  go_wp2_with fail
  go_ret
  exact ⟨_, N + 1, rfl, HI.out, by omega, by omega, HN1.out, HB1.out⟩
 ·skip
  go_upto_region 2 with fail
  refine wl <| gzb (eql_nn rfl v1 0 (decide_eq_false h0)) <| gz1 (.bool false) <| wn ?_
  simp only [pu]
  by_cases h1 : v1 = 1
  ·skip
   go_upto_region 4 with fail
   refine wl <| gzb (eql_nn rfl v1 1 (decide_eq_true h1)) <| gz1 (.bool true) <| wn ?_
   simp only [pu]
   clear h0 h1
   go_upto_region 5 with fail
   refine wl <| gz1 (.int .i64 9223372036854775807) <| wn ?_
   simp only [pu]
   have HI : Hid (I64 (9223372036854775807 : Int)) := Lib.hid ⟨by omega, by omega⟩
   go_wp2_with fail
   go_ret
   exact ⟨_, N + 1, rfl, HI.out, by omega, by omega, HN1.out, HB1.out⟩
  ·skip
   go_upto_region 4 with fail
   refine wl <| gzb (eql_nn rfl v1 1 (decide_eq_false h1)) <| gz1 (.bool false) <| wn ?_
   simp only [pu]
   by_cases h2 : v1 = 2
   ·skip
    go_upto_region 6 with fail
    refine wl <| gzb (eql_nn rfl v1 2 (decide_eq_true h2)) <| gz1 (.bool true) <| wn ?_
    simp only [pu]
    clear h0 h1 h2
    go_upto_region 7 with fail
    refine wl <| gz1 (.pointer (some ⟨g, 0, none⟩)) <| gze (fun v w' => ∃ q : Nat, v = .int .i64 q ∧ (q : Int) < 5 ∧ Nm w' g a c L ((N + 1) + 1) ∧ But g V1 w') (nx2 HN1.out HL.out (by have := HNN.out; omega) 5 (by first | decide | omega) (by first | decide | omega)) (fun vv V2 hq => ?_)
    obtain ⟨v2, rfl, hv2, hns2, hbt2⟩ := hq
    have HB2 := Lib.hid (HB1.out.trans hbt2)
    have HN2 := Lib.hid hns2
    have HV2 : Hid (v2 < 12) := Lib.hid (by omega)
    clear hns2 hbt2 HN1 HB1 hv2
    simp only [pu]
    refine gzv (.int .i64 (-(v2 : Int))) (neg_i rfl v2 (by have := HV2.out; omega) (by kernel_rfl) _) <| gz1 (.int .i64 (-(v2 : Int))) <| wn ?_
    simp only [pu]
    have hv9 := HV2.out
    have HI : Hid (I64 (-(v2 : Int))) := Lib.hid ⟨by omega, by omega⟩
    go_wp2_with fail
    go_ret
    exact ⟨_, N + 2, rfl, HI.out, by omega, by omega, HN2.out, HB2.out⟩
   ·skip
    go_upto_region 6 with fail
    refine wl <| gzb (eql_nn rfl v1 2 (decide_eq_false h2)) <| gz1 (.bool false) <| wn ?_
    simp only [pu]
    clear h0 h1 h2
    go_upto_region 8 with fail
    refine wl <| gz1 (.pointer (some ⟨g, 0, none⟩)) <| gze (fun v w' => ∃ q : Nat, v = .int .i64 q ∧ (q : Int) < 12 ∧ Nm w' g a c L ((N + 1) + 1) ∧ But g V1 w') (nx2 HN1.out HL.out (by have := HNN.out; omega) 12 (by first | decide | omega) (by first | decide | omega)) (fun vv V2 hq => ?_)
    obtain ⟨v2, rfl, hv2, hns2, hbt2⟩ := hq
    have HB2 := Lib.hid (HB1.out.trans hbt2)
    have HN2 := Lib.hid hns2
    have HV2 : Hid (v2 < 12) := Lib.hid (by omega)
    clear hns2 hbt2 HN1 HB1 hv2
    simp only [pu]
    refine gz1 (.int .i64 v2) <| wn ?_
    simp only [pu]
    have hv9 := HV2.out
    have HI : Hid (I64 ((v2 : Int))) := Lib.hid ⟨by omega, by omega⟩
    go_wp2_with fail
    go_ret
    exact ⟨_, N + 2, rfl, HI.out, by omega, by omega, HN2.out, HB2.out⟩
/-- What a walk keeps of a queue at g0 that stands for m. -/
structure Stt (B : Nat) (w : World) (g0 : Nat) (S : Nat → Prop) (bl sp : Int) (m : List Wt) (V : World) : Prop where
 rep : RepQ V g0 S bl sp m
 so : ∀ k, S k → B ≤ k
 bz : B ≤ V.heap.size
 bel : Below w.heap.size w V
 wB : w.heap.size ≤ B
section
variable {B : Nat} {w : World} {g0 : Nat} {S : Nat → Prop} {bl sp : Int} {m m2 : List Wt} {V V2 : World}
theorem Stt.below (h : Stt B w g0 S bl sp m V) (hb : Below V.heap.size V V2) : Stt B w g0 S bl sp m V2 := ⟨h.rep.below hb, h.so, Nat.le_trans h.bz hb.size, h.bel.trans (hb.mono h.bel.size), h.wB⟩
theorem Stt.upd (h : Stt B w g0 S bl sp m V) (hu : UpdQ g0 B S bl sp m2 V V2) : ∃ S2, Stt B w g0 S2 bl sp m2 V2 ∧ (∀ k, k < V.heap.size → ¬ S k → ¬ S2 k) ∧ ButS B S V V2 := by
 obtain ⟨S2, q1, q2, q3⟩ := hu
 exact ⟨S2, ⟨q1, fun k hk => (q2 k hk).elim (h.so k) (Nat.le_trans h.bz), Nat.le_trans h.bz q3.1.size, h.bel.trans (q3.1.mono h.wB), h.wB⟩, fun k hk hn h4 => (q2 k h4).elim hn (by omega), q3⟩
theorem IsO.cs {L : List Int} {e : Ending} {w' : World} (h : IsO w L e w') : ∃ v, e = .returned v ∧ ∃ a c, v = .slice a L.length c ∧ Cs w' a (icells L) ∧ L.length ≤ c ∧ Below w.heap.size w w' := by
 obtain ⟨v, rfl, h1, h2⟩ := h
 obtain ⟨a, c, rfl, h3, h4⟩ := h1.cs
 exact ⟨_, rfl, a, c, rfl, h3, h4, h2⟩
end
def kM : List Wt := [(1, 5, 0)]
theorem k_add : addW [] (1, 5, 0) = kM := by decide
theorem k_has : hasW kM 1 = true := by decide
theorem k_e7 : expW kM 2 0 7 1000 = [] := by decide
theorem k_e8 : expW kM 2 0 8 0 = [1] := by decide
theorem one_ints (x : Int) (V : World) : (Instr.buildSlice 22 1 #[(0, .int .i64 x)]).run Try.prog V = .ok (.slice (some ⟨V.heap.size, 0, none⟩) 1 1) (V.alloc (.cells (icells [x]).toArray 3)) := one_int x V
theorem i64_lit {a : Int} (h : -9223372036854775808 ≤ a) (h2 : a ≤ 9223372036854775807) : I64 a := ⟨h, h2⟩
set_option maxRecDepth 100000 in
set_option maxHeartbeats 8000000 in
theorem known_true (w : World) : Calls Try.prog 7 #[] w fun e w' => e = .returned (.bool true) ∧ Below w.heap.size w w' := by
 have CN := q_new 2 0 w
 go_enter Try.func7, Try.ntmps7
 go_upto_region 1 with fail
 refine wl <| gze (fun v w' => ∃ g S, v = .pointer (some ⟨g, 0, none⟩) ∧ RepQ w' g S 2 0 [] ∧ (∀ k, S k → w.heap.size ≤ k) ∧ Below w.heap.size w w') (CN.mono fun e w' z => by obtain ⟨g, S, z1, z2⟩ := z; exact ⟨_, z1, g, S, rfl, z2⟩) (fun vv V0 hq => ?_)
 obtain ⟨g0, S0, rfl, hr0, hso, hb0⟩ := hq
 have H0 : Stt w.heap.size w g0 S0 2 0 [] V0 := ⟨hr0, hso, hb0.size, hb0, Nat.le_refl _⟩
 clear hr0 hso hb0 CN
 have CA1 := q_add H0.rep (by decide) 1 5 0 (i64_lit (by decide) (by decide)) (i64_lit (by decide) (by decide)) H0.so H0.bz
 rw [k_add] at CA1
 simp only [pu]
 refine gz1 (.pointer (some ⟨g0, 0, none⟩)) <| wn ?_
 simp only [pu]
 go_upto_region 2 with fail
 refine wl <| gz2 (.pointer (some ⟨g0, 0, none⟩)) (.bool false) <| wn ?_
 simp only [pu]
 go_upto_region 4 with fail
 refine wl <| gz1 (.pointer (some ⟨g0, 0, none⟩)) <| gzc (.bool true) (fun w' => UpdQ g0 w.heap.size S0 2 0 kM V0 w') (CA1) (fun V1 hu => ?_)
 obtain ⟨S1, H1, -, -⟩ := H0.upd hu
 clear hu H0 CA1
 have CA2 := q_add H1.rep (by decide) 1 9 0 (i64_lit (by decide) (by decide)) (i64_lit (by decide) (by decide)) H1.so H1.bz
 rw [k_has, add_no (z := (1, 9, 0)) k_has] at CA2
 simp only [pu]
 refine gz1 (.pointer (some ⟨g0, 0, none⟩)) <| gzc (.bool false) (fun w' => UpdQ g0 w.heap.size S1 2 0 kM V1 w') (CA2) (fun V2 hu => ?_)
 obtain ⟨S2, H2, -, -⟩ := H1.upd hu
 clear hu H1 CA2
 have CE := q_exp H2.rep (by decide) (i64_lit (by decide) (by decide)) (i64_lit (by decide) (by decide)) (h := 7) (t := 1000) (i64_lit (by decide) (by decide)) (i64_lit (by decide) (by decide))
 rw [k_e7] at CE
 simp only [pu]
 refine gz2 (.bool true) (.bool false) <| wn ?_
 simp only [pu]
 go_upto_region 5 with fail
 refine wl <| gz6 (.bool true) (.bool true) (.bool false) (.bool true) (.bool true) (.bool true) <| gz1 (.pointer (some ⟨g0, 0, none⟩)) <|
  gze (fun v w' => ∃ a c, v = .slice a (List.length ([] : List Int)) c ∧ Cs w' a (icells ([] : List Int)) ∧ List.length ([] : List Int) ≤ c ∧ Below V2.heap.size V2 w') (CE.mono fun e w' z => z.cs) (fun vv X1 hq => ?_)
 obtain ⟨a1, c1, rfl, hc1, hlc1, hbX1⟩ := hq
 have HX1 := H2.below hbX1
 have CE2 := q_exp HX1.rep (by decide) (i64_lit (by decide) (by decide)) (i64_lit (by decide) (by decide)) (h := 8) (t := 0) (i64_lit (by decide) (by decide)) (i64_lit (by decide) (by decide))
 rw [k_e8] at CE2
 clear CE H2 hbX1 hc1 hlc1
 simp only [pu]
 refine gz1 (.int .i64 0) <| gzb (eql_nn rfl 0 0 (decide_eq_true rfl)) <| gz3 (.bool true) (.bool true) (.pointer (some ⟨g0, 0, none⟩)) <|
  gze (fun v w' => ∃ a c, v = .slice a (List.length [(1 : Int)]) c ∧ Cs w' a (icells [(1 : Int)]) ∧ List.length [(1 : Int)] ≤ c ∧ Below X1.heap.size X1 w') (CE2.mono fun e w' z => z.cs) (fun vv X2 hq => ?_)
 obtain ⟨a2, c2, rfl, hc2, hlc2, hbX2⟩ := hq
 have HX2 := HX1.below hbX2
 obtain ⟨Y2, hY2⟩ : ∃ W, X2.alloc (.cells (icells [1]).toArray 3) = W := ⟨_, rfl⟩
 have hbY2 : Below X2.heap.size X2 Y2 := by rw [← hY2]; exact (Below.refl _ X2).alloc (Nat.le_refl _) _
 have hcY2 : Cs Y2 (some ⟨X2.heap.size, 0, none⟩) (icells [1]) := Cs.block (by rw [← hY2]; exact heap_alloc_last X2 _)
 have hbd2 := one_ints 1 X2
 rw [hY2] at hbd2
 have CS2 := same_ints (c := c2) (c2 := 1) (hc2.below hbY2) hcY2 (by decide)
 have HY2 := HX2.below hbY2
 clear CE2 HX1 hbX2 hc2 HX2 hbY2 hcY2 hlc2
 simp only [pu]
 refine gw_build (by kernel_rfl) (some 25) rfl 22 1 #[(0, .const (.int .i64 1))] rfl #[(0, .int .i64 1)] (by kernel_rfl) (.slice (some ⟨X2.heap.size, 0, none⟩) 1 1) _ hbd2 ?_
 simp only [pu]
 refine gzc (.bool true) (fun w' => Below Y2.heap.size Y2 w') (CS2) (fun Z2 hbZ => ?_)
 have HZ2 := HY2.below hbZ
 clear hbZ HY2 CS2 hbd2 hY2
 have CLN := q_len HZ2.rep
 simp only [pu]
 refine gz3 (.bool true) (.bool true) (.pointer (some ⟨g0, 0, none⟩)) <| gzc (.int .i64 1) (fun w' => Z2 = w') (CLN) (fun V9 hV9 => ?_)
 subst hV9
 simp only [pu]
 refine gzb (eql_nn rfl 1 1 (decide_eq_true rfl)) <| gz2 (.bool true) (.bool true) <| wn ?_
 simp only [pu]
 have HE := Lib.hid HZ2.bel
 clear HZ2 CLN
 go_wp2_with fail
 go_ret
 exact ⟨rfl, HE.out⟩
end Go.Proofs.Ytdjphghoollejaa
