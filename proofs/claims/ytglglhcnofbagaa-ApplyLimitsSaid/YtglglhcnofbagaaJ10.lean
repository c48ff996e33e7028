/-
  The program's read: contract.
-/
import Derived.Test.YtglglhcnofbagaaJ9
namespace Go.Proofs.Ytglglhcnofbagaa
attribute [local irreducible] wpList wpQuiet
open Go.RowKit
set_option linter.unusedSimpArgs false
set_option linter.unusedVariables false

theorem But.more {g : Nat} {a b c : World} (h : But g a b) (hb : Below a.heap.size b c) (hg : g ≤ a.heap.size) : But g a c := ⟨h.1.trans (hb.mono hg), fun k hk hn => (hb.block k hk).trans (h.2 k hk hn)⟩
theorem build_tf (x : Tf) (V : World) : (Instr.buildSlice 30 1 #[(0, .agg (tfA x))]).run Try.prog V = .ok (.slice (some ⟨V.heap.size, 0, none⟩) 1 1) (V.alloc (.cells (tfA x) 35)) := by
 obtain ⟨i0, hi, hz0, hz1, hz2⟩ := info_parts infoT
 refine run_buildSlice V 30 35 1 _ (tfA x) i0 _ Try.underlying30 hi hz0 (by rw [hz1]; omega) (by rw [hz1]; omega) ?_
 rw [hz1]
 kernel_rfl
/-- Transfers in a row of the call's own. -/
def RowT (w : World) (B : Nat) (v : Value) (A : List Tf) : Prop := w.ownsRow B 35 2 v A.length (tfc A)
theorem RowT.nil (w : World) (B : Nat) : RowT w B (.slice none 0 0) [] := World.ownsRow_nil _ _ _ _
theorem RowT.below {w w' : World} {B : Nat} {v : Value} {A : List Tf} (h : RowT w B v A) (hb : Below w.heap.size w w') : RowT w' B v A := own_below h hb
theorem RowT.base {w : World} {B B' : Nat} {v : Value} {A : List Tf} (h : RowT w B' v A) (hB : B ≤ B') : RowT w B v A := own_base h hB
theorem RowT.but {w w' : World} {B g : Nat} {v : Value} {A : List Tf} (h : RowT w B v A) (hb : But g w w') (hg : g < B) : RowT w' B v A := own_but h hb hg
theorem RowT.cs {w : World} {B : Nat} {v : Value} {A : List Tf} (h : RowT w B v A) : ∃ a c, v = .slice a A.length c ∧ Cs w a (tfc A) ∧ A.length ≤ c := own_cs h
theorem grow_tf {w : World} {B : Nat} {v : Value} {A : List Tf} (h : RowT w B v A) (hB : B ≤ w.heap.size) (x : Tf) (hl : A.length ≤ 100000) :
  ∃ a c V2, (Builtin.append_ #[30, 30] 30 #[v, .slice (some ⟨w.heap.size, 0, none⟩) 1 1]).run Try.prog (w.alloc (.cells (tfA x) 35)) = .ok (.slice a (A ++ [x]).length c) V2 ∧ RowT V2 B (.slice a (A ++ [x]).length c) (A ++ [x]) ∧ Below B w V2 := by
 have hb : Below w.heap.size w (w.alloc (.cells (tfA x) 35)) := (Below.refl _ w).alloc (Nat.le_refl _) _
 have hO := own_below h hb
 have hc : Cs (w.alloc (.cells (tfA x) 35)) (some ⟨w.heap.size, 0, none⟩) (tfl x) := Cs.block (t := 35) (fr := (0, 0)) (heap_alloc_last w _)
 obtain ⟨v2, V2, hr, hO2, hb2, -⟩ := append_cs (P := Try.prog) (t := 30) (m := 1) Try.underlying30 infoT (by kernel_rfl) (by omega) (by omega) hO (some ⟨w.heap.size, 0, none⟩) 1 (tfl x) hc rfl (fun u hu => by
  simp only [tfl, List.mem_cons, List.not_mem_nil, or_false] at hu
  rcases hu with rfl | rfl <;> rfl) (by simp; omega) hl (by omega)
 have e : tfc (A ++ [x]) = tfc A ++ tfl x := by rw [tfc_app]; simp [tfc]
 have hO3 : RowT V2 B v2 (A ++ [x]) := by unfold RowT; rw [e, List.length_append]; exact hO2
 obtain ⟨a, c, rfl, -, -⟩ := hO3.cs
 exact ⟨a, c, V2, hr, hO3, (hb.mono hB).trans hb2⟩
theorem takT_le (k : Int) (l : List Fld) : (takT k l).2.length ≤ l.length := by
 cases l with
 | nil => exact Nat.le_refl _
 | cons f r =>
  by_cases h : f.num = k ∧ f.kind = 2 ∧ f.bytes.length ≠ 0
  ·rw [takT_yes h]; simp
  ·rw [takT_no h]; exact Nat.le_refl _
theorem takN_le (k : Int) (l : List Fld) : (takN k l).2.length ≤ l.length := by
 cases l with
 | nil => exact Nat.le_refl _
 | cons f r =>
  by_cases h : f.num = k ∧ f.kind = 0 ∧ f.val ≠ 0
  ·rw [takN_yes h]; simp
  ·rw [takN_no h]; exact Nat.le_refl _
/-- The transaction of some bytes, valid or not. -/
def rdL (L : List Int) : Option Txd := if (flds L).2.2 ≠ 0 then none else rdX (flds L).1
def RdO (w : World) (r : Option Txd) (e : Ending) (w' : World) : Prop := ∃ t ok a c, e = .returned (.tuple #[.agg (txA t a c), .bool ok]) ∧ r = (if ok = true then some t else none) ∧ RowT w' w.heap.size (.slice a t.tr.length c) t.tr ∧ Below w.heap.size w w'
/-- What was read of the transfers. -/
def TsJ (P : List Fld) (j : Nat) (A : List Tf) : Prop := rdTs P = (rdTs (P.drop j)).map (A ++ ·)
theorem TsJ.zero (P : List Fld) : TsJ P 0 [] := by
 unfold TsJ
 rw [List.drop_zero]
 cases rdTs P <;> simp
theorem TsJ.step {P : List Fld} {j : Nat} {A : List Tf} (h : TsJ P j A) (hj : j < P.length) {x : Tf} (hx : rdTf P[j] = some x) : TsJ P (j + 1) (A ++ [x]) := by
 unfold TsJ at *
 rw [h, List.drop_eq_getElem_cons hj, rdTs, hx]
 cases rdTs (P.drop (j + 1)) <;> simp
theorem TsJ.fail {P : List Fld} {j : Nat} {A : List Tf} (h : TsJ P j A) (hj : j < P.length) (hx : rdTf P[j] = none) : rdTs P = none := by
 unfold TsJ at *
 rw [h, List.drop_eq_getElem_cons hj, rdTs, hx]
 rfl
theorem TsJ.done {P : List Fld} {j : Nat} {A : List Tf} (h : TsJ P j A) (hj : P.length ≤ j) : rdTs P = some A := by
 unfold TsJ at *
 rw [h, List.drop_eq_nil_of_le hj, rdTs]
 simp
theorem store_txz {w : World} {g : Nat} {x y : Txd} {a a' : Option Addr} {c c' : Nat} (h : Bx w g (txA x a c) 32) : (Instr.storeAt 32 (.pointer (some ⟨g, 0, none⟩)) (.agg (txA y a' c'))).run Try.prog w = .ok () (w.setRow g (txA y a' c')) ∧ Bx (w.setRow g (txA y a' c')) g (txA y a' c') 32 :=
 ⟨run_store_all h rfl (by simp [Value.oneCell']) (by kernel_rfl), h.set⟩
theorem own_row {w : World} {B g : Nat} {v : Value} {A : List Tf} (h : RowT w B v A) (cs : Array Value) (hg : g < B) : RowT (w.setRow g cs) B v A := h.but (But.setRow w cs) hg
set_option maxRecDepth 100000 in
set_option maxHeartbeats 8000000 in
theorem q_read (a : Option Addr) (c : Nat) (L : List Int) (w : World) (hs : Sl w a c L) (hc : L.length ≤ c) (hl : L.length ≤ 100000) (h8 : ∀ y, y ∈ L → W8 y) :
  Calls Try.prog 50 #[.slice a L.length c] w (RdO w (rdL L)) := by
 have hb0 : Below w.heap.size w (w.alloc (.cells (txA zX none 0) 32)) := (Below.refl _ w).alloc (Nat.le_refl _) _
 have hX0 : Bx (w.alloc (.cells (txA zX none 0) 32)) w.heap.size (txA zX none 0) 32 := heap_alloc_last w _
 have CF := code_fields a c L (w.alloc (.cells (txA zX none 0) 32)) (by omega) (sl_below hs hb0) h8 hc
 have HFV : Hid ((flds L).2.2 = 0 → (∀ f, f ∈ (flds L).1 → Vf f) ∧ 2 * (flds L).1.length ≤ 100000) := Lib.hid fun h => by
  rcases flds_ok (fun y hy => h8 y hy) (by omega) with ⟨-, q⟩ | ⟨P, e, hm, hP⟩
  ·exact absurd h q
  ·rw [e]; exact ⟨hP, by have := msg_ge P; rw [hm] at this; simp only; omega⟩
 have HR1 : Hid ((flds L).2.2 ≠ 0 → rdL L = none) := Lib.hid fun h => by unfold rdL; rw [if_pos h]
 have HR2 : Hid ((flds L).2.2 = 0 → rdL L = rdX (flds L).1) := Lib.hid fun h => by unfold rdL; rw [if_neg (by rw [h]; decide)]
 have HTN : Hid (∀ V, Below w.heap.size w V → rdL L = none → RdO w (rdL L) (.returned (.tuple #[.agg (txA zX none 0), .bool false])) V) := Lib.hid fun V hb e => ⟨zX, false, none, 0, rfl, by rw [e]; rfl, RowT.nil _ _, hb⟩
 have HTY : Hid (∀ V t a2 c2, Below w.heap.size w V → rdL L = some t → RowT V w.heap.size (.slice a2 t.tr.length c2) t.tr → RdO w (rdL L) (.returned (.tuple #[.agg (txA t a2 c2), .bool true])) V) := Lib.hid fun V t a2 c2 hb e hr => ⟨t, true, a2, c2, rfl, by rw [e]; rfl, hr, hb⟩
 generalize rdL L = RR at *
 generalize flds L = FR at *
 go_enter Try.func50, Try.ntmps50
 go_upto_region 1 with fail
 change Code.wp _ _ _ _ (w.alloc (.cells (txA zX none 0) 32))
 generalize w.alloc (.cells (txA zX none 0) 32) = W at *
 obtain ⟨g2, hg2⟩ : ∃ g2, w.heap.size = g2 := ⟨_, rfl⟩
 have HB0 := Lib.hid hb0
 have HG2 : Hid (w.heap.size ≤ g2) := Lib.hid (by omega)
 rw [hg2] at hX0
 rw [hg2]
 have HGW : Hid (g2 < W.heap.size) := Lib.hid hX0.lt
 clear hb0 hg2 hs
 refine wl <| gz1 (.slice a L.length c) <|
  gze (fun v w' => ∃ a c ps, v = .tuple #[.slice a ps.length c, .int .i64 FR.2.1, .int .i64 FR.2.2] ∧ ps.map Prod.fst = FR.1 ∧ ps.length ≤ c ∧ FsB w' W.heap.size a ps ∧ RowB w' W.heap.size (.slice a ps.length c) ps ∧ Below W.heap.size W w') (CF.mono fun e w' q => by obtain ⟨v, ps, h1, h2, h3, h4⟩ := q; obtain ⟨a, c, rfl, hc, hf⟩ := h3.fsb; exact ⟨_, h1, a, c, ps, rfl, h2, hc, hf, h3, h4⟩) (fun v5 V5 hq => ?_)
 obtain ⟨a5, c5, ps, rfl, hps, hc5, hF5, hR5, hb5⟩ := hq
 simp only [pu]
 refine gz6 (.tuple #[.slice a5 ps.length c5, .int .i64 FR.2.1, .int .i64 FR.2.2]) (.slice a5 ps.length c5) (.int .i64 FR.2.1) (.int .i64 FR.2.2) (.slice a5 ps.length c5) (.int .i64 FR.2.1) <| gz1 (.int .i64 FR.2.2) <| wn ?_
 simp only [pu]
 have hX5 := hX0.below hX0.lt hb5
 have HB5 := Lib.hid (HB0.out.trans (hb5.mono HB0.out.size))
 have HW5 : Hid (W.heap.size ≤ V5.heap.size) := Lib.hid hb5.size
 obtain ⟨P, n5, e5⟩ := FR
 dsimp only at *
 clear hb5 hX0 HB0 CF hR5
 go_upto_region 2 with fail
 by_cases he : e5 = 0
 ·skip
  have hvf := (HFV.out he).1
  have hlen := (HFV.out he).2
  have HRR := Lib.hid (HR2.out he)
  rw [← hps] at hvf hlen HRR
  have HPL : Hid (2 * ps.length ≤ 100000) := Lib.hid (by rw [List.length_map] at hlen; exact hlen)
  clear HFV hps hlen HR1 HR2
  refine wl <| gz1 (.int .i64 e5) <| gzb (neq_e rfl e5 0 (decide_eq_true he)) <| wn ?_
  simp only [pu]
  unfold rdX at HRR
  have HW := HW5
  have CT := q_takeText a5 c5 ps W.heap.size 1 V5 hF5 hc5 hvf
  have hv2 := takT_vf (k := 1) hvf
  have htl := takT_le 1 (ps.map Prod.fst)
  generalize takT 1 (ps.map Prod.fst) = TT at *
  obtain ⟨s1, R1⟩ := TT
  dsimp only at *
  clear hvf
  go_upto_region 4 with fail
  refine wl <| gz1 (.slice a5 ps.length c5) <|
   gze (fun v w' => ∃ a c qs, v = .tuple #[.string s1, .slice a qs.length c] ∧ FsB w' W.heap.size a qs ∧ qs.length ≤ c ∧ qs.map Prod.fst = R1 ∧ Below V5.heap.size V5 w') (CT.mono fun e w' q => by obtain ⟨a, c, qs, h1, h2⟩ := q; exact ⟨_, h1, a, c, qs, rfl, h2⟩) (fun v6 U0 hq => ?_)
  obtain ⟨aq0, cq0, q0, rfl, hF6, hcq0, hq1, hb6⟩ := hq
  have hY6 := hX5.below hX5.lt hb6
  have HB6 := Lib.hid (HB5.out.trans (hb6.mono HB5.out.size))
  obtain ⟨W0, hst7, hXW0, hB7, hbut7⟩ := st_cell (i := 0) (ty := 9) (v := .string s1) (cs' := txA (⟨s1, 0, 0, 0, mtS, []⟩ : Txd) none 0) hY6 HB6.out HG2.out (by show 0 < 6; decide) rfl (by kernel_rfl) rfl
  have hFW0 := hF6.but hbut7 HGW.out
  have HBW0 := Lib.hid hB7
  have HWW0 : Hid (W.heap.size ≤ W0.heap.size) := Lib.hid (Nat.le_trans (Nat.le_trans HW.out hb6.size) hbut7.1.size)
  simp only [pu]
  refine gz4 (.tuple #[.string s1, .slice aq0 q0.length cq0]) (.string s1) (.slice aq0 q0.length cq0) (.pointer (some ⟨g2, 0, none⟩)) <| gzs rfl (hst7) <| gz1 (.slice aq0 q0.length cq0) <| wn ?_
  simp only [pu]
  rw [← hq1] at hv2 HRR
  have hvf := hv2
  rw [← hq1, List.length_map, List.length_map] at htl
  have HPL2 : Hid (2 * q0.length ≤ 100000) := Lib.hid (by have := HPL.out; omega)
  clear HPL htl
  have HPL := HPL2
  clear HPL2
  clear CT hv2 hst7 hb6 hY6 HB6 hB7 hbut7 hF6 hq1 hX5 HB5 hF5 hc5 HW
  have HW := HWW0
  have CT := q_takeNumber aq0 cq0 q0 W.heap.size 2 W0 hFW0 hcq0 hvf
  have hv2 := takN_vf (k := 2) hvf
  have htl := takN_le 2 (q0.map Prod.fst)
  generalize takN 2 (q0.map Prod.fst) = TT at *
  obtain ⟨m2, R1⟩ := TT
  dsimp only at *
  clear hvf
  go_upto_region 5 with fail
  refine wl <| gz1 (.slice aq0 q0.length cq0) <|
   gze (fun v w' => ∃ a c qs, v = .tuple #[.int .u64 m2, .slice a qs.length c] ∧ FsB w' W.heap.size a qs ∧ qs.length ≤ c ∧ qs.map Prod.fst = R1 ∧ Below W0.heap.size W0 w') (CT.mono fun e w' q => by obtain ⟨a, c, qs, h1, h2⟩ := q; exact ⟨_, h1, a, c, qs, rfl, h2⟩) (fun v6 U1 hq => ?_)
  obtain ⟨aq1, cq1, q1, rfl, hF6, hcq1, hq1, hb6⟩ := hq
  have hY6 := hXW0.below hXW0.lt hb6
  have HB6 := Lib.hid (HBW0.out.trans (hb6.mono HBW0.out.size))
  obtain ⟨W1, hst7, hXW1, hB7, hbut7⟩ := st_cell (i := 1) (ty := 22) (v := .int .u64 m2) (cs' := txA (⟨s1, m2, 0, 0, mtS, []⟩ : Txd) none 0) hY6 HB6.out HG2.out (by show 1 < 6; decide) rfl (by kernel_rfl) rfl
  have hFW1 := hF6.but hbut7 HGW.out
  have HBW1 := Lib.hid hB7
  have HWW1 : Hid (W.heap.size ≤ W1.heap.size) := Lib.hid (Nat.le_trans (Nat.le_trans HW.out hb6.size) hbut7.1.size)
  simp only [pu]
  refine gz4 (.tuple #[.int .u64 m2, .slice aq1 q1.length cq1]) (.int .u64 m2) (.slice aq1 q1.length cq1) (.pointer (some ⟨g2, 1, none⟩)) <| gzs rfl (hst7) <| gz1 (.slice aq1 q1.length cq1) <| wn ?_
  simp only [pu]
  rw [← hq1] at hv2 HRR
  have hvf := hv2
  rw [← hq1, List.length_map, List.length_map] at htl
  have HPL2 : Hid (2 * q1.length ≤ 100000) := Lib.hid (by have := HPL.out; omega)
  clear HPL htl
  have HPL := HPL2
  clear HPL2
  clear CT hv2 hst7 hb6 hY6 HB6 hB7 hbut7 hF6 hq1 hXW0 HBW0 hFW0 hcq0 HW
  have HW := HWW1
  have CT := q_takeNumber aq1 cq1 q1 W.heap.size 3 W1 hFW1 hcq1 hvf
  have hv2 := takN_vf (k := 3) hvf
  have htl := takN_le 3 (q1.map Prod.fst)
  generalize takN 3 (q1.map Prod.fst) = TT at *
  obtain ⟨m3, R1⟩ := TT
  dsimp only at *
  clear hvf
  go_upto_region 6 with fail
  refine wl <| gz1 (.slice aq1 q1.length cq1) <|
   gze (fun v w' => ∃ a c qs, v = .tuple #[.int .u64 m3, .slice a qs.length c] ∧ FsB w' W.heap.size a qs ∧ qs.length ≤ c ∧ qs.map Prod.fst = R1 ∧ Below W1.heap.size W1 w') (CT.mono fun e w' q => by obtain ⟨a, c, qs, h1, h2⟩ := q; exact ⟨_, h1, a, c, qs, rfl, h2⟩) (fun v6 U2 hq => ?_)
  obtain ⟨aq2, cq2, q2, rfl, hF6, hcq2, hq1, hb6⟩ := hq
  have hY6 := hXW1.below hXW1.lt hb6
  have HB6 := Lib.hid (HBW1.out.trans (hb6.mono HBW1.out.size))
  obtain ⟨W2, hst7, hXW2, hB7, hbut7⟩ := st_cell (i := 2) (ty := 22) (v := .int .u64 m3) (cs' := txA (⟨s1, m2, m3, 0, mtS, []⟩ : Txd) none 0) hY6 HB6.out HG2.out (by show 2 < 6; decide) rfl (by kernel_rfl) rfl
  have hFW2 := hF6.but hbut7 HGW.out
  have HBW2 := Lib.hid hB7
  have HWW2 : Hid (W.heap.size ≤ W2.heap.size) := Lib.hid (Nat.le_trans (Nat.le_trans HW.out hb6.size) hbut7.1.size)
  simp only [pu]
  refine gz4 (.tuple #[.int .u64 m3, .slice aq2 q2.length cq2]) (.int .u64 m3) (.slice aq2 q2.length cq2) (.pointer (some ⟨g2, 2, none⟩)) <| gzs rfl (hst7) <| gz1 (.slice aq2 q2.length cq2) <| wn ?_
  simp only [pu]
  rw [← hq1] at hv2 HRR
  have hvf := hv2
  rw [← hq1, List.length_map, List.length_map] at htl
  have HPL2 : Hid (2 * q2.length ≤ 100000) := Lib.hid (by have := HPL.out; omega)
  clear HPL htl
  have HPL := HPL2
  clear HPL2
  clear CT hv2 hst7 hb6 hY6 HB6 hB7 hbut7 hF6 hq1 hXW1 HBW1 hFW1 hcq1 HW
  have HW := HWW2
  have CT := q_takeNumber aq2 cq2 q2 W.heap.size 4 W2 hFW2 hcq2 hvf
  have hv2 := takN_vf (k := 4) hvf
  have htl := takN_le 4 (q2.map Prod.fst)
  generalize takN 4 (q2.map Prod.fst) = TT at *
  obtain ⟨m4, R1⟩ := TT
  dsimp only at *
  clear hvf
  go_upto_region 7 with fail
  refine wl <| gz1 (.slice aq2 q2.length cq2) <|
   gze (fun v w' => ∃ a c qs, v = .tuple #[.int .u64 m4, .slice a qs.length c] ∧ FsB w' W.heap.size a qs ∧ qs.length ≤ c ∧ qs.map Prod.fst = R1 ∧ Below W2.heap.size W2 w') (CT.mono fun e w' q => by obtain ⟨a, c, qs, h1, h2⟩ := q; exact ⟨_, h1, a, c, qs, rfl, h2⟩) (fun v6 U3 hq => ?_)
  obtain ⟨aq3, cq3, q3, rfl, hF6, hcq3, hq1, hb6⟩ := hq
  have hY6 := hXW2.below hXW2.lt hb6
  have HB6 := Lib.hid (HBW2.out.trans (hb6.mono HBW2.out.size))
  obtain ⟨W3, hst7, hXW3, hB7, hbut7⟩ := st_cell (i := 3) (ty := 22) (v := .int .u64 m4) (cs' := txA (⟨s1, m2, m3, m4, mtS, []⟩ : Txd) none 0) hY6 HB6.out HG2.out (by show 3 < 6; decide) rfl (by kernel_rfl) rfl
  have hFW3 := hF6.but hbut7 HGW.out
  have HBW3 := Lib.hid hB7
  have HWW3 : Hid (W.heap.size ≤ W3.heap.size) := Lib.hid (Nat.le_trans (Nat.le_trans HW.out hb6.size) hbut7.1.size)
  simp only [pu]
  refine gz4 (.tuple #[.int .u64 m4, .slice aq3 q3.length cq3]) (.int .u64 m4) (.slice aq3 q3.length cq3) (.pointer (some ⟨g2, 3, none⟩)) <| gzs rfl (hst7) <| gz1 (.slice aq3 q3.length cq3) <| wn ?_
  simp only [pu]
  rw [← hq1] at hv2 HRR
  have hvf := hv2
  rw [← hq1, List.length_map, List.length_map] at htl
  have HPL2 : Hid (2 * q3.length ≤ 100000) := Lib.hid (by have := HPL.out; omega)
  clear HPL htl
  have HPL := HPL2
  clear HPL2
  clear CT hv2 hst7 hb6 hY6 HB6 hB7 hbut7 hF6 hq1 hXW2 HBW2 hFW2 hcq2 HW
  have HW := HWW3
  have CT := q_takeText aq3 cq3 q3 W.heap.size 5 W3 hFW3 hcq3 hvf
  have hv2 := takT_vf (k := 5) hvf
  have htl := takT_le 5 (q3.map Prod.fst)
  generalize takT 5 (q3.map Prod.fst) = TT at *
  obtain ⟨s5, R1⟩ := TT
  dsimp only at *
  clear hvf
  go_upto_region 8 with fail
  refine wl <| gz1 (.slice aq3 q3.length cq3) <|
   gze (fun v w' => ∃ a c qs, v = .tuple #[.string s5, .slice a qs.length c] ∧ FsB w' W.heap.size a qs ∧ qs.length ≤ c ∧ qs.map Prod.fst = R1 ∧ Below W3.heap.size W3 w') (CT.mono fun e w' q => by obtain ⟨a, c, qs, h1, h2⟩ := q; exact ⟨_, h1, a, c, qs, rfl, h2⟩) (fun v6 U4 hq => ?_)
  obtain ⟨aq4, cq4, q4, rfl, hF6, hcq4, hq1, hb6⟩ := hq
  have hY6 := hXW3.below hXW3.lt hb6
  have HB6 := Lib.hid (HBW3.out.trans (hb6.mono HBW3.out.size))
  obtain ⟨W4, hst7, hXW4, hB7, hbut7⟩ := st_cell (i := 4) (ty := 9) (v := .string s5) (cs' := txA (⟨s1, m2, m3, m4, s5, []⟩ : Txd) none 0) hY6 HB6.out HG2.out (by show 4 < 6; decide) rfl (by kernel_rfl) rfl
  have hFW4 := hF6.but hbut7 HGW.out
  have HBW4 := Lib.hid hB7
  have HWW4 : Hid (W.heap.size ≤ W4.heap.size) := Lib.hid (Nat.le_trans (Nat.le_trans HW.out hb6.size) hbut7.1.size)
  simp only [pu]
  refine gz4 (.tuple #[.string s5, .slice aq4 q4.length cq4]) (.string s5) (.slice aq4 q4.length cq4) (.pointer (some ⟨g2, 4, none⟩)) <| gzs rfl (hst7) <| gz1 (.slice aq4 q4.length cq4) <| wn ?_
  simp only [pu]
  rw [← hq1] at hv2 HRR
  have hvf := hv2
  rw [← hq1, List.length_map, List.length_map] at htl
  have HPL2 : Hid (2 * q4.length ≤ 100000) := Lib.hid (by have := HPL.out; omega)
  clear HPL htl
  have HPL := HPL2
  clear HPL2
  clear CT hv2 hst7 hb6 hY6 HB6 hB7 hbut7 hF6 hq1 hXW3 HBW3 hFW3 hcq3 HW
  have HW := HWW4
  go_upto_region 9 with fail
  refine wl <| gz3 (.slice aq4 q4.length cq4) (.int .i64 q4.length) (.int .i64 0) <| wn ?_
  simp only [pu]
  obtain ⟨n, hn⟩ : ∃ n, q4.length = n := ⟨_, rfl⟩
  have HN := Lib.hid hn
  have HF := Lib.hid hFW4
  have HCQ := Lib.hid hcq4
  have HVF := Lib.hid hvf
  have HTJ0 := Lib.hid (TsJ.zero (q4.map Prod.fst))
  have HX4 := Lib.hid hXW4
  have HNL : Hid (n ≤ 100000) := Lib.hid (by have := HPL.out; omega)
  have HBC := Lib.hid hFW4.cap
  have HX4L : Hid (g2 < W4.heap.size) := Lib.hid hXW4.lt
  rw [hn] at hcq4 ⊢
  clear hFW4 hcq4 hvf hXW4 hn HW
  go_wp2_with fail
  go_loopg [52] n (fun gg s52 wx => ∃ (j : Nat) (A : List Tf) (a6 : Option Addr) (c6 : Nat), s52 = .int .i64 j ∧ j ≤ n ∧ Hid (A.length = j) ∧ Hid (Bx wx g2 (txA ⟨s1, m2, m3, m4, s5, A⟩ a6 c6) 32) ∧ Hid (RowT wx W4.heap.size (.slice a6 A.length c6) A) ∧ Hid (TsJ (q4.map Prod.fst) j A) ∧ Hid (But g2 W4 wx) ∧ n - j = gg)
  case atStart => exact ⟨0, [], none, 0, rfl, by omega, Lib.hid rfl, HX4, Lib.hid (RowT.nil _ _), HTJ0, Lib.hid (But.refl _ _), by omega⟩
  case round =>
   obtain ⟨j, A, a6, c6, rfl, hj, HAL, HBX, HRT, HTJ, HBT, hg⟩ := hrel
   clear HX4 HTJ0
   by_cases hlt : j < n
   ·skip
    have HG : Hid (n - (j + 1) = gk - 1 ∧ 0 < gk ∧ j + 1 ≤ n ∧ j + 1 ≤ 100000) := Lib.hid ⟨by omega, by omega, by omega, by have := HNL.out; omega⟩
    have hjq : j < q4.length := by rw [HN.out]; exact hlt
    have hFr := HF.out.but HBT.out HGW.out
    obtain ⟨b, off, ba, bc, rfl, hp2, hsl, hbox⟩ := hFr.fs j q4[j] (List.getElem?_eq_getElem hjq)
    have hvx := HVF.out q4[j].1 (by exact List.mem_map_of_mem (List.getElem_mem hjq))
    have hjm : j < (q4.map Prod.fst).length := by rw [List.length_map]; exact hjq
    have hgx : (q4.map Prod.fst)[j] = q4[j].1 := List.getElem_map ..
    have HST := Lib.hid (fun x (hx : rdTf q4[j].1 = some x) => HTJ.out.step hjm (by rw [hgx]; exact hx))
    have HFL := Lib.hid (fun (hx : rdTf q4[j].1 = none) => HTJ.out.fail hjm (by rw [hgx]; exact hx))
    have hba : q4[j].1.bytes.length ≤ bc := HBC.out q4[j] (List.getElem_mem hjq) ba q4[j].1.bytes.length bc hp2
    generalize q4[j].1 = x at *
    have hld := load_fd (fd_range hbox)
    obtain ⟨V6, hst, hb6, hbx⟩ := new_fd wr x ba bc
    have CR := q_readTransfer x ba bc V6 (sl_below hsl hb6) hba hvx.2.2.2 hvx.2.2.1 (by rcases hvx.1.2.2 with q | q; exact .inl q.1; exact .inr q.1)
    have HB6 := Lib.hid hb6
    clear hFr hp2 hsl hbox hvx hjm hgx hba HTJ hb6 hg hjq
    generalize rdTf x = rx at *
    go_upto_region 10 with fail
    refine wl <| gzb (lss_n rfl (j) (n) dT) <| wn ?_
    simp only [pu]
    go_upto_region 11 with fail
    refine wl <| gzv (.pointer (some ⟨b, off + j * 4, none⟩)) (idx_fd b off n cq4 j hlt _ _ _ rfl (by kernel_rfl) (by kernel_rfl)) <| gzl rfl ⟨b, off + j * 4, none⟩ (.agg (fdA x ba bc)) (hld) ?_
    simp only [pu]
    refine run_to rfl (some 8) rfl (.pointer (some ⟨wr.heap.size, 0, none⟩)) (wr.alloc (.cells (fdA zeroF none 0) 66)) (by kernel_rfl) ?_
    simp only [pu]
    refine gzs rfl (hst) <| wn ?_
    obtain ⟨g8, hg8⟩ : ∃ g8, wr.heap.size = g8 := ⟨_, rfl⟩
    rw [hg8] at hbx ⊢
    clear hst hg8 hld
    go_upto_region 12 with fail
    refine wl <| gzl rfl ⟨g8, 0, none⟩ (.agg (fdA x ba bc)) (load_fdb hbx) <|
     gze (fun v w' => ∃ y ok, v = .tuple #[.agg (tfA y), .bool ok] ∧ rx = (if ok = true then some y else none) ∧ Below V6.heap.size V6 w') (CR.mono fun e w' q => by obtain ⟨y, ok, h1, h2⟩ := q; exact ⟨_, h1, y, ok, rfl, h2⟩) (fun v7 V7 hq => ?_)
    obtain ⟨y, ok, rfl, hok, hb7⟩ := hq
    obtain ⟨V8, hst8, hb8, hbx8⟩ := new_tf V7 y
    simp only [pu]
    refine gz3 (.tuple #[.agg (tfA y), .bool ok]) (.agg (tfA y)) (.bool ok) ?_
    simp only [pu]
    refine run_to rfl (some 9) rfl (.pointer (some ⟨V7.heap.size, 0, none⟩)) (V7.alloc (.cells (tfA zTf) 35)) (by kernel_rfl) ?_
    simp only [pu]
    refine gzs rfl (hst8) <| gz1 (.bool ok) <| wn ?_
    simp only [pu]
    obtain ⟨g9, hg9⟩ : ∃ g9, V7.heap.size = g9 := ⟨_, rfl⟩
    have hb68 := (HB6.out.trans (hb7.mono HB6.out.size)).trans (hb8.mono (Nat.le_trans HB6.out.size hb7.size))
    have hX8 := HBX.out.below HBX.out.lt hb68
    have HRT8 := Lib.hid (HRT.out.below hb68)
    have HBT8 := Lib.hid (HBT.out.more (hb68.mono HBT.out.1.size) (Nat.le_of_lt HX4L.out))
    rw [hg9] at hbx8 ⊢
    clear hst8 hg9 hb7 hb8 hb68 hbx CR HB6 HBX HRT HBT
    go_upto_region 13 with fail
    cases ok
    ·skip
     refine wl <| gz2 (.bool false) (.bool true) <| wn ?_
     simp only [pu]
     have HRN : Hid (RR = none) := Lib.hid (by rw [HRR.out, HFL.out hok]; rfl)
     have HB8 := Lib.hid (HBW4.out.trans (HBT8.out.1.mono (Nat.le_trans HG2.out (Nat.le_refl _))))
     obtain ⟨hst, hZ⟩ := store_txz (y := zX) (a' := none) (c' := 0) hX8
     have HB9 := Lib.hid (belowRow HB8.out HG2.out (txA zX none 0))
     have HE := Lib.hid (HTN.out _ HB9.out (HRN.out))
     generalize World.setRow _ g2 (txA zX none 0) = V9 at *
     clear HTN HTY HRR HST HFL hok HRN
     go_upto_region 14 with fail
     refine wl <| gz1 (.agg #[.string ⟨#[]⟩, .int .u64 0, .int .u64 0, .int .u64 0, .string ⟨#[]⟩, .slice none 0 0]) <| gzs rfl (hst) <| gz1 (.bool false) <| wn ?_
     simp only [pu]
     go_wp2_with fail
     exact bodyPost_ret (results_c (p := 2) (q := 3) rfl (by kernel_rfl) (load_txb hZ) rfl) rfl HE.out
    ·skip
     refine wl <| gz2 (.bool true) (.bool false) <| wn ?_
     simp only [pu]
     have HST2 := Lib.hid (HST.out y hok)
     obtain ⟨a7, c7, V9, hap, hr9, hb9⟩ := grow_tf HRT8.out HBT8.out.1.size y (by have := HAL.out; have := HG.out; omega)
     have hX9 : Bx V9 g2 (txA ⟨s1, m2, m3, m4, s5, A⟩ a6 c6) 32 := hX8.below HX4L.out hb9
     obtain ⟨V10, hst10, hX10, -, hbut10⟩ := st_cell (i := 5) (ty := 30) (v := .slice a7 (A ++ [y]).length c7) (cs' := txA ⟨s1, m2, m3, m4, s5, A ++ [y]⟩ a7 c7) (w0 := V9) (B := g2) hX9 (Below.refl _ _) (Nat.le_refl _) (by show 5 < 6; decide) rfl (by kernel_rfl) rfl
     have HX10 := Lib.hid hX10
     have HR10 := Lib.hid (hr9.but hbut10 HX4L.out)
     have HBT10 := Lib.hid ((HBT8.out.more hb9 (Nat.le_of_lt HX4L.out)).trans hbut10)
     have HAL2 : Hid ((A ++ [y]).length = j + 1) := Lib.hid (by rw [List.length_append, HAL.out]; rfl)
     clear HST HFL hok HRT8 HBT8 hr9 hb9 hX9 hX10 hbut10
     go_upto_region 15 with fail
     refine wl <| gz1 (.pointer (some ⟨g2, 5, none⟩)) <| gzl rfl ⟨g2, 5, none⟩ (.slice a6 A.length c6) (hX8.load (i := 5) rfl (by kernel_rfl)) <| gzl rfl ⟨g9, 0, none⟩ (.agg (tfA y)) (load_tfb hbx8) ?_
     simp only [pu]
     refine gw_build (by kernel_rfl) (some 67) rfl 30 1 #[(0, .tmp 66)] rfl #[(0, .agg (tfA y))] (by kernel_rfl) (.slice (some ⟨V8.heap.size, 0, none⟩) 1 1) _ (build_tf y V8) ?_
     simp only [pu]
     refine append_step rfl (some 68) rfl 30 rfl (.tmp 65) (.tmp 67) 30 rfl (.slice a6 A.length c6) (.slice (some ⟨V8.heap.size, 0, none⟩) 1 1) (.slice a7 (A ++ [y]).length c7) V9 (by kernel_rfl) (by kernel_rfl) hap ?_
     simp only [pu]
     refine gz1 (.pointer (some ⟨g2, 5, none⟩)) <| gzs rfl (hst10) <| wn ?_
     simp only [pu]
     clear hap hst10 hX8 hbx8
     go_upto_region 16 with fail
     refine wl <| gzv (.int .i64 (j + 1 : Nat)) (add_one rfl j (by have := HG.out; omega) (by kernel_rfl) _) <| gz1 (.int .i64 (j + 1 : Nat)) <| wn ?_
     simp only [pu]
     go_wp2_with fail
     go_roundg (gk - 1)
     case measure => have := HG.out; omega
     case rel => exact ⟨j + 1, A ++ [y], a7, c7, rfl, HG.out.2.2.1, HAL2, HX10, HR10, HST2, HBT10, HG.out.1⟩
   ·skip
    have HRS : Hid (RR = some ⟨s1, m2, m3, m4, s5, A⟩) := Lib.hid (by rw [HRR.out, HTJ.out.done (by rw [List.length_map, HN.out]; omega)]; rfl)
    obtain ⟨hst, hZ⟩ := store_txz (y := ⟨s1, m2, m3, m4, s5, A⟩) (a' := a6) (c' := c6) HBX.out
    have HLD := Lib.hid (load_txb HBX.out)
    have HB8 := Lib.hid (HBW4.out.trans (HBT.out.1.mono HG2.out))
    have HB9 := Lib.hid (belowRow HB8.out HG2.out (txA ⟨s1, m2, m3, m4, s5, A⟩ a6 c6))
    have HRW := Lib.hid ((own_row (g := g2) HRT.out (txA ⟨s1, m2, m3, m4, s5, A⟩ a6 c6) HX4L.out).base (B := w.heap.size) (Nat.le_trans HG2.out (Nat.le_of_lt HX4L.out)))
    have HE := Lib.hid (HTY.out _ _ a6 c6 HB9.out HRS.out HRW.out)
    generalize World.setRow _ g2 (txA ⟨s1, m2, m3, m4, s5, A⟩ a6 c6) = V9 at *
    clear HTN HTY HRR HTJ HRS HB8 HB9 HRW HBX HRT HBT hg
    go_upto_region 10 with fail
    refine wl <| gzb (lss_n rfl (j) (n) dF) <| wn ?_
    simp only [pu]
    go_upto_region 17 with fail
    refine wl <| gzl rfl ⟨g2, 0, none⟩ (.agg (txA ⟨s1, m2, m3, m4, s5, A⟩ a6 c6)) (HLD.out) <| gzs rfl (hst) <| gz1 (.bool true) <| wn ?_
    simp only [pu]
    go_wp2_with fail
    exact bodyPost_ret (results_c (p := 2) (q := 3) rfl (by kernel_rfl) (load_txb hZ) rfl) rfl HE.out
 ·skip
  refine wl <| gz1 (.int .i64 e5) <| gzb (neq_e rfl e5 0 (decide_eq_false he)) <| wn ?_
  simp only [pu]
  obtain ⟨hst, hZ⟩ := store_txz (y := zX) (a' := none) (c' := 0) hX5
  have HB9 := Lib.hid (belowRow HB5.out HG2.out (txA zX none 0))
  have HE := Lib.hid (HTN.out _ HB9.out (HR1.out he))
  generalize World.setRow _ g2 (txA zX none 0) = V9 at *
  clear HTN HTY HR1 HR2 HFV
  go_upto_region 3 with fail
  refine wl <| gz1 (.agg #[.string ⟨#[]⟩, .int .u64 0, .int .u64 0, .int .u64 0, .string ⟨#[]⟩, .slice none 0 0]) <| gzs rfl (hst) <| gz1 (.bool false) <| wn ?_
  simp only [pu]
  go_wp2_with fail
  exact bodyPost_ret (results_c (p := 2) (q := 3) rfl (by kernel_rfl) (load_txb hZ) rfl) rfl HE.out
end Go.Proofs.Ytglglhcnofbagaa
