/-
  ApplyTotals returns true for every input: the total of a ledger never changes, only the sender's sequence grows, and the result is a valid ledger; the arguments read afterwards as before.
  Conditions: none beyond the statement's own: the bound on a word's bytes is the reading's own reach.
-/
import Derived.Test.YtglglhcnofbagaaGreatJ31
import Derived.WalkKit
import Derived.Test.YtglglhcnofbagaaGreatRows
import Derived.ProofKit
import Derived.OpenShut
import Derived.ShutString
import Derived.ChangeOld
import Derived.ChangeMaps5
import Derived.SizedLaws
import Derived.Below
namespace Go.Proofs.YtglglhcnofbagaaGreat.Lg
attribute [local irreducible] wpList wpQuiet
set_option maxRecDepth 100000
open Mo (usedV prioV mulB mulV)
open Go.RowKit
set_option linter.unusedSimpArgs false
set_option linter.unusedVariables false

theorem neq_bb {ρ : Operand → Value} {o : Oper} {x y : Operand} (ho : o.op = .binOp .neq 4 x y 4) (a : Bool) (hx : ρ x = .bool a) (hy : ρ y = .bool a) (w : World) : (execOp ρ o).run Tryz.prog w = .ok (.value (.bool false)) w := by
 unfold execOp
 simp only [ho, hx, hy]
 cases a <;> go_simp
theorem eql_ss {ρ : Operand → Value} {o : Oper} {x y : Operand} (ho : o.op = .binOp .eql 9 x y 9) (a b : ByteArray) {t : Bool} (ht : decide (a = b) = t) (hx : ρ x = .string a) (hy : ρ y = .string b) (w : World) : (execOp ρ o).run Tryz.prog w = .ok (.value (.bool t)) w :=
 eql_s ho a b (by rw [← ht]; exact beqB a b) hx hy w
/-- The total stays. -/
theorem tx_tot {B : List Ac} {cc p : Int} {R : List Int} (h : LdQ B cc) (hp : W64 p) (h8 : ∀ y, y ∈ R → W8 y) : totV (txX B cc p R).1.1 (txX B cc p R).1.2 = totV B cc ∧ totB (txX B cc p R).1.1 (txX B cc p R).1.2 = totB B cc := by
 have e : tot ((txX B cc p R).1.2 :: bals (txX B cc p R).1.1) = tot (cc :: bals B) := by
  rcases tx_seq (A := B) (c := cc) (price := p) (L := R) with ⟨-, h1⟩ | ⟨-, h1, -, hd, hf, -⟩
  ·rw [h1]
  ·have hq := fa_q h8 h.v h.w h.cw hp hd
   obtain ⟨d1, d2⟩ := fault_0 hq hf
   obtain ⟨d3, -, -, -⟩ := dec_ok (t := (decX R).1) (fun x hx => h8 x hx) (by rw [← hd])
   obtain ⟨-, -, -, e4⟩ := done_ok d1 h.v (valX_names d3) d2
   rw [h1, tot_cons, tot_cons]; exact e4
 unfold totV totB sumV sumB
 rw [e]
 exact ⟨rfl, rfl⟩
/-- The sequences. -/
theorem tx_sqs {B : List Ac} {cc p : Int} {R : List Int} (h : LdQ B cc) (hp : W64 p) (h8 : ∀ y, y ∈ R → W8 y) {j : Nat} (hj : j < (txX B cc p R).1.1.length) : (aca (txX B cc p R).1.1 j).2.2 = if (txX B cc p R).2.code = 0 ∧ (aca (txX B cc p R).1.1 j).1 = (txX B cc p R).2.snd then (getX B (aca (txX B cc p R).1.1 j).1).1.2.2 + 1 else (getX B (aca (txX B cc p R).1.1 j).1).1.2.2 := by
 have hq := h.tx hp h8
 have hs := (valE_ok hq.v).2.1
 have e1 := get_is hs hj
 have e2 := getX_seq (txX B cc p R).1.1 (aca (txX B cc p R).1.1 j).1
 rw [e1] at e2
 have e3 : (aca (txX B cc p R).1.1 j).2.2 = seqA (txX B cc p R).1.1 (aca (txX B cc p R).1.1 j).1 := e2
 rw [e3, getX_seq]
 clear e1 e2 e3 hj
 rcases tx_seq (A := B) (c := cc) (price := p) (L := R) with ⟨h0, h1⟩ | ⟨h0, h1, -, hd, hf, h2⟩
 ·rw [if_neg (fun q => h0 q.1), h1]
 ·obtain ⟨f1, -⟩ := fault_found hf
  rw [h0, h2, h1]
  generalize (aca (doneL B (decX R).1, cc + (decX R).1.fee).1 j).1 = s
  show seqA (doneL B (decX R).1) s = _
  rw [done_seq f1]
  by_cases q : s = (decX R).1.snd
  ·rw [if_pos q, if_pos ⟨rfl, q⟩]
  ·rw [if_neg q, if_neg (fun z => q z.2)]
theorem tx_same {B : List Ac} {cc p : Int} {R : List Int} (h : (txX B cc p R).2.code ≠ 0) : (txX B cc p R).1 = (B, cc) := by
 rcases tx_seq (A := B) (c := cc) (price := p) (L := R) with ⟨-, h1⟩ | ⟨h1, -⟩
 ·exact h1
 ·exact absurd h1 h
set_option maxRecDepth 100000 in
set_option maxHeartbeats 8000000 in
theorem totals_core (ak : Option Addr) (ck : Nat) (L : List Int) (w : World) (hl : L.length ≤ 9223372036854775807) (hk : Cs w ak (icells L)) :
  Calls Tryz.prog 5 #[.slice ak L.length ck] w fun e w' => e = .returned (.bool true) ∧ Below w.heap.size w w' := by
 have HNL := Lib.hid hl
 have HCK := Lib.hid hk
 have HK := Lib.hid (fun (V : World) (h : Below w.heap.size w V) => (known_true q_tx V).mono fun e w' (q : e = .returned (.bool true) ∧ Below V.heap.size V w') => (⟨q.1, h.trans (q.2.mono h.size)⟩ : e = .returned (.bool true) ∧ Below w.heap.size w w'))
 clear hl hk
 go_enter Tryz.func5, Tryz.ntmps5
 go_upto_region 1 with fail
 have CLn := long_one w.heap.size ak L.length ck (w.alloc (.cells #[.slice ak L.length ck] 27)) (heap_alloc_last w _) HNL.out
 have hor := one_row ak L.length ck w
 have hb1 : Below w.heap.size w (w.alloc (.cells #[.slice ak L.length ck] 27)) := (Below.refl _ w).alloc (Nat.le_refl _) _
 have HCK1 := Lib.hid (HCK.out.below hb1)
 generalize w.alloc (.cells #[.slice ak L.length ck] 27) = W1 at *
 have HB1 := Lib.hid hb1
 clear hb1
 by_cases hL : 160 < L.length
 ·skip
  rw [decide_eq_true (by omega)] at CLn
  refine wl <| gz1 (.slice ak L.length ck) ?_
  simp only [pu]
  refine gw_build (by kernel_rfl) (some 19) rfl 67 1 #[(0, .tmp 18)] rfl #[(0, .slice ak L.length ck)] (by kernel_rfl) (.slice (some ⟨w.heap.size, 0, none⟩) 1 1) _ hor ?_
  simp only [pu]
  refine gzc (.bool true) (fun w' => W1 = w') CLn (fun W2 hW => ?_)
  subst hW
  simp only [pu]
  apply wpList_nil
  clear CLn hor
  go_upto_region 2 with fail
  refine wl <| gzc (.bool true) (fun w' => Below w.heap.size w w') (HK.out W1 (HB1.out)) (fun V9 hV9 => ?_)
  simp only [pu]
  refine gz1 (.bool true) <| wn ?_
  simp only [pu]
  have HE := Lib.hid hV9
  clear hV9
  go_wp2_with fail
  go_ret
  exact ⟨rfl, HE.out⟩
 rw [decide_eq_false (by omega)] at CLn
 refine wl <| gz1 (.slice ak L.length ck) ?_
 simp only [pu]
 refine gw_build (by kernel_rfl) (some 19) rfl 67 1 #[(0, .tmp 18)] rfl #[(0, .slice ak L.length ck)] (by kernel_rfl) (.slice (some ⟨w.heap.size, 0, none⟩) 1 1) _ hor ?_
 simp only [pu]
 refine gzc (.bool false) (fun w' => W1 = w') CLn (fun W2 hW => ?_)
 subst hW
 simp only [pu]
 apply wpList_nil
 clear CLn hor
 have CM := made_any ak ck L W1 HCK1.out (by omega)
 go_upto_region 3 with fail
 refine wl <| gz1 (.slice ak L.length ck) <|
  gze (fun v w' => ∃ la lk B cc p b d R gs, v = .tuple #[.agg (lgA la (List.length B) lk cc), .int .u64 p, .slice b (List.length R) d, .pointer (some ⟨gs, 0, none⟩)] ∧ Cs w' la (acc B) ∧ B.length ≤ lk ∧ LdQ B cc ∧ 0 ≤ p ∧ p ≤ 3 ∧ Rw w' (gs + 1) b d R ∧ NS w' gs ak ck L 160 ∧ W1.heap.size ≤ gs ∧ (acc B ≠ [] → ∀ x, la = some x → x.block ≠ gs) ∧ Below W1.heap.size W1 w') (CM.mono fun e w' q => by obtain ⟨la, lk, B, cc, p, b, d, R, gs, h1, h2⟩ := q; exact ⟨_, h1, la, lk, B, cc, p, b, d, R, gs, rfl, h2⟩) (fun vv V2 hq => ?_)
 obtain ⟨la, lk, B, cc, p, b, d, R, gs, rfl, hcs, hlk, hldq, hp0, hp3, hrw, hns, hgs, hne, hbm⟩ := hq
 obtain ⟨V3, hst3, hb3, hbx3⟩ := new_lg V2 la B.length lk cc
 simp only [pu]
 refine gz5 (.tuple #[.agg (lgA la B.length lk cc), .int .u64 p, .slice b R.length d, .pointer (some ⟨gs, 0, none⟩)]) (.agg (lgA la B.length lk cc)) (.int .u64 p) (.slice b R.length d) (.pointer (some ⟨gs, 0, none⟩)) ?_
 simp only [pu]
 refine run_to rfl (some 3) rfl (.pointer (some ⟨V2.heap.size, 0, none⟩)) (V2.alloc (.cells (lgA none 0 0 0) 25)) (by kernel_rfl) ?_
 simp only [pu]
 refine gzs rfl (hst3) <| gz3 (.int .u64 p) (.slice b R.length d) (.pointer (some ⟨gs, 0, none⟩)) <| wn ?_
 simp only [pu]
 obtain ⟨g3, hg3⟩ : ∃ g3, V2.heap.size = g3 := ⟨_, rfl⟩
 have hb13 := hbm.trans (hb3.mono hbm.size)
 have HLQ := Lib.hid hldq
 have HLK := Lib.hid hlk
 have HPW : Hid (W64 p) := Lib.hid ⟨hp0, by omega⟩
 have HP3 : Hid (0 ≤ p ∧ p ≤ 3) := Lib.hid ⟨hp0, hp3⟩
 have HGS : Hid (w.heap.size ≤ gs ∧ gs < g3 ∧ g3 < V3.heap.size) := Lib.hid ⟨Nat.le_trans HB1.out.size hgs, by rw [← hg3]; exact hns.lt, by rw [← hg3]; exact hbx3.lt⟩
 rw [hg3] at hbx3 ⊢
 have HX3 := Lib.hid hbx3
 have HBM := Lib.hid hb13
 have HB3 := Lib.hid (HB1.out.trans (hb13.mono HB1.out.size))
 have HC3 := Lib.hid (hcs.below hb3)
 have HRW3 := Lib.hid (hrw.below hb3)
 have HNS3 := Lib.hid (hns.below hb3)
 have HNE := Lib.hid hne
 have HRB : Hid (R ≠ [] → ∀ x, b = some x → x.block < g3) := Lib.hid fun h x hx => by rw [← hg3]; exact sl_lt hrw.sl h x hx
 have HLB : Hid (acc B ≠ [] → ∀ x, la = some x → x.block < g3) := Lib.hid fun h x hx => by rw [← hg3]; exact cs_old hcs h x hx
 clear CM hcs hlk hldq hp0 hp3 hrw hns hgs hne hbm hst3 hb3 hbx3 hb13 hg3
 obtain ⟨X, hX⟩ : ∃ X, txX B cc p R = X := ⟨_, rfl⟩
 have CT := tx_good HLQ.out HPW.out HC3.out HLK.out HRW3.out.sl HRW3.out.le HRW3.out.b
 have hto := tx_tot HLQ.out HPW.out HRW3.out.b
 have HLX : Hid (LdQ X.1.1 X.1.2) := Lib.hid (by rw [← hX]; exact HLQ.out.tx HPW.out HRW3.out.b)
 have HSQ : Hid (∀ j, j < X.1.1.length → (aca X.1.1 j).2.2 = if X.2.code = 0 ∧ (aca X.1.1 j).1 = X.2.snd then (getX B (aca X.1.1 j).1).1.2.2 + 1 else (getX B (aca X.1.1 j).1).1.2.2) := Lib.hid fun j hj => by rw [← hX] at hj ⊢; exact tx_sqs HLQ.out HPW.out HRW3.out.b hj
 have HSM : Hid (X.2.code ≠ 0 → X.1 = (B, cc)) := Lib.hid fun h => by rw [← hX] at h ⊢; exact tx_same h
 rw [hX] at CT hto
 have HTO := Lib.hid hto
 clear hX hto
 go_upto_region 4 with fail
 refine wl <| gzl rfl ⟨g3, 0, none⟩ (.agg (lgA la B.length lk cc)) (load_lg HX3.out) <| gz2 (.int .u64 p) (.slice b R.length d) <|
  gze (fun v w' => ∃ ad k, v = .tuple #[.agg (lgA ad X.1.1.length k X.1.2), .agg (resA X.2)] ∧ Cs w' ad (acc X.1.1) ∧ X.1.1.length ≤ k ∧ ((ad = la ∧ X.1.1 = B) ∨ ∀ x, ad = some x → V3.heap.size ≤ x.block) ∧ Below V3.heap.size V3 w') (CT.mono fun e w' q => by obtain ⟨ad, k, h1, h2⟩ := q; exact ⟨_, h1, ad, k, rfl, h2⟩) (fun vv V4 hq => ?_)
 obtain ⟨ad, k, rfl, hct, hkt, hbl, hbt⟩ := hq
 obtain ⟨Va, Vb, Vc, hVa, hlt, hs6, hs7, hb7, hx4, hx5⟩ := new_lr V4 ad X.1.1.length k X.1.2 X.2
 simp only [pu]
 refine gz3 (.tuple #[.agg (lgA ad X.1.1.length k X.1.2), .agg (resA X.2)]) (.agg (lgA ad X.1.1.length k X.1.2)) (.agg (resA X.2)) ?_
 simp only [pu]
 refine run_to rfl (some 7) rfl (.pointer (some ⟨V4.heap.size, 0, none⟩)) (V4.alloc (.cells (lgA none 0 0 0) 25)) (by kernel_rfl) ?_
 simp only [pu]
 rw [hVa]
 refine run_to rfl (some 8) rfl (.pointer (some ⟨Va.heap.size, 0, none⟩)) (Va.alloc (.cells (resA (zRes 0)) 39)) (by kernel_rfl) ?_
 simp only [pu]
 refine gzs rfl (hs6) <| gzs rfl (hs7) <| wn ?_
 obtain ⟨g7, hga⟩ : ∃ g, V4.heap.size = g := ⟨_, rfl⟩
 obtain ⟨g8, hgb⟩ : ∃ g, Va.heap.size = g := ⟨_, rfl⟩
 have hbA := hbt.trans (hb7.mono hbt.size)
 have hgV : V3.heap.size ≤ g7 := by rw [← hga]; exact hbt.size
 have hgl : g7 < g8 := by rw [← hga, ← hgb]; exact hlt
 rw [hga] at hx4 ⊢
 rw [hgb] at hx5 ⊢
 have hcA := hct.below hb7
 have hltA : acc X.1.1 ≠ [] → ∀ x, ad = some x → x.block < g7 := fun hn x hx => by rw [← hga]; exact cs_old hct hn x hx
 clear hVa hlt hs6 hs7 hct hbt hga hgb hb7
 have HX7 := Lib.hid hx4
 have HX8 := Lib.hid hx5
 have HBV := Lib.hid (HB3.out.trans (hbA.mono HB3.out.size))
 have HX33 := Lib.hid (HX3.out.below HX3.out.lt hbA)
 have HC7 := Lib.hid hcA
 have HK7 := Lib.hid hkt
 have HC33 := Lib.hid (HC3.out.below hbA)
 have CM1 := ref_total la lk B cc Vc HC33.out (by have := HLQ.out.n; omega) HLQ.out.cw HLQ.out.w
 obtain ⟨tv, htv⟩ : ∃ tv, totV B cc = tv := ⟨_, rfl⟩
 obtain ⟨tb, htb⟩ : ∃ tb, totB B cc = tb := ⟨_, rfl⟩
 rw [htv, htb] at CM1
 have HTV := Lib.hid htv
 have HTB := Lib.hid htb
 clear CT hgV hgl hx4 hx5 hbA hcA hltA hkt hbl HC3 HRW3 HNS3 HX3 HB3 htv htb
 go_upto_region 5 with fail
 refine wl <| gzl rfl ⟨g3, 0, none⟩ (.agg (lgA la B.length lk cc)) (load_lg HX33.out) <| gzc (.tuple #[.int .u64 tv, .bool tb]) (fun w' => Below Vc.heap.size Vc w') (CM1) (fun V5 hV5 => ?_)
 simp only [pu]
 refine gz5 (.tuple #[.int .u64 tv, .bool tb]) (.int .u64 tv) (.bool tb) (.int .u64 tv) (.bool tb) <| wn ?_
 simp only [pu]
 have CM2 := ref_total ad k X.1.1 X.1.2 V5 (HC7.out.below hV5) (by have := HLX.out.n; omega) HLX.out.cw HLX.out.w
 rw [HTO.out.1, HTO.out.2, HTV.out, HTB.out] at CM2
 have hX75 := HX7.out.below HX7.out.lt hV5
 go_upto_region 6 with fail
 refine wl <| gzl rfl ⟨g7, 0, none⟩ (.agg (lgA ad X.1.1.length k X.1.2)) (load_lg hX75) <| gzc (.tuple #[.int .u64 tv, .bool tb]) (fun w' => Below V5.heap.size V5 w') (CM2) (fun V6 hV6 => ?_)
 simp only [pu]
 refine gz5 (.tuple #[.int .u64 tv, .bool tb]) (.int .u64 tv) (.bool tb) (.int .u64 tv) (.bool tb) <| wn ?_
 simp only [pu]
 have hV56 := hV5.trans (hV6.mono hV5.size)
 have HB6 := Lib.hid (HBV.out.trans (hV56.mono HBV.out.size))
 have HX76 := Lib.hid (HX7.out.below HX7.out.lt hV56)
 have HX86 := Lib.hid (HX8.out.below HX8.out.lt hV56)
 have HX36 := Lib.hid (HX33.out.below HX33.out.lt hV56)
 have HC76 := Lib.hid (HC7.out.below hV56)
 have HC36 := Lib.hid (HC33.out.below hV56)
 have CV1 := Lib.hid (fun U (hU : Below V6.heap.size V6 U) => ref_validate ad k X.1.1 X.1.2 U (HC76.out.below hU) (by have := HLX.out.n; omega) HLX.out.cw HLX.out.w HLX.out.z)
 have CV2 := Lib.hid (fun U (hU : Below V6.heap.size V6 U) => ref_validate la lk B cc U (HC36.out.below hU) (by have := HLQ.out.n; omega) HLQ.out.cw HLQ.out.w HLQ.out.z)
 rw [HLX.out.v] at CV1
 rw [HLQ.out.v] at CV2
 have HSC : Hid (X.2.code ≠ 0 → ∀ U, Below V6.heap.size V6 U → Calls Tryz.prog 13 #[.agg (lgA ad X.1.1.length k X.1.2), .agg (lgA la B.length lk cc)] U fun e w' => e = .returned (.bool true) ∧ Below U.heap.size U w') := Lib.hid fun h U hU => by
  have e := HSM.out h
  have e1 : X.1.1 = B := by rw [e]
  have e2 : X.1.2 = cc := by rw [e]
  have hc := HC76.out.below hU
  rw [e1] at hc ⊢
  rw [e2]
  exact ref_sameled B cc ad la k lk U hc (HC36.out.below hU) (by have := HLQ.out.n; omega)
 clear CM1 CM2 hX75 hV5 hV6 hV56 HX7 HX8 HX33 HC7 HC33 HBV HTO HTV HTB HSM
 by_cases hc : X.2.code = 0
 ·skip
  go_upto_region 7 with fail
  refine wp_region_class (C := fun U => Below V6.heap.size V6 U) (by kernel_rfl) (by kernel_rfl) ((Below.refl _ V6).drew) ?_
  refine gy (.int .u64 tv) <| gy (.int .u64 tv) <| gyv (.bool false) (fun U hU => neq_u6 rfl tv tv (decide_eq_true rfl) (by kernel_rfl) (by kernel_rfl) _) <| gy (.bool false) <| gy (.bool tb) <| gy (.bool tb) <| gyv (.bool false) (fun U hU => neq_bb rfl tb (by kernel_rfl) (by kernel_rfl) _) <|
    gy (.bool false) <| gy (.bool false) <| gyl rfl ⟨g7, 0, none⟩ (.agg (lgA ad X.1.1.length k X.1.2)) (fun U hU => load_lg (HX76.out.below HX76.out.lt hU)) ?_
  simp only [pu]
  refine gq_call (by kernel_rfl) (some 56) rfl 22 #[.agg (lgA ad X.1.1.length k X.1.2)] (.int .i64 0) (fun U hU => by kernel_rfl) (fun U hU => (CV1.out U hU).mono fun e w2 q => ⟨q.1, hU.trans (q.2.mono hU.size)⟩) ?_
  simp only [pu]
  refine gyl rfl ⟨g3, 0, none⟩ (.agg (lgA la B.length lk cc)) (fun U hU => load_lg (HX36.out.below HX36.out.lt hU)) ?_
  simp only [pu]
  refine gq_call (by kernel_rfl) (some 58) rfl 22 #[.agg (lgA la B.length lk cc)] (.int .i64 0) (fun U hU => by kernel_rfl) (fun U hU => (CV2.out U hU).mono fun e w2 q => ⟨q.1, hU.trans (q.2.mono hU.size)⟩) ?_
  simp only [pu]
  refine gyv (.bool false) (fun U hU => neq_e rfl 0 0 (decide_eq_true rfl) (by kernel_rfl) (by kernel_rfl) _) <| gy (.bool false) <| gy (.bool false) <| gy (.pointer (some ⟨g8, 0, none⟩)) <|
    gyl rfl ⟨g8, 0, none⟩ (.int .i64 X.2.code) (fun U hU => (HX86.out.below HX86.out.lt hU).load (i := 0) rfl (by kernel_rfl)) <| gyv (.bool false) (fun U hU => neq_e rfl X.2.code 0 (decide_eq_true hc) (by kernel_rfl) (by kernel_rfl) _) <| gy (.bool false) <| gyn <| gyn <| gyn <| gyn <|
    gy (.bool false) <| gy (.bool false) ?_
  simp only [pu]
  apply wpQuiet_nil
  intro V hV
  have HB7 := Lib.hid (HB6.out.trans (hV.mono HB6.out.size))
  have HX77 := Lib.hid (HX76.out.below HX76.out.lt hV)
  have HX87 := Lib.hid (HX86.out.below HX86.out.lt hV)
  have HX37 := Lib.hid (HX36.out.below HX36.out.lt hV)
  have HC77 := Lib.hid (HC76.out.below hV)
  have HC37 := Lib.hid (HC36.out.below hV)
  clear hV HX76 HX86 HX36 HC76 HC36 CV1 CV2 HSC HB6
  obtain ⟨n, hnn⟩ : ∃ n, X.1.1.length = n := ⟨_, rfl⟩
  have HN := Lib.hid hnn
  have HNL2 : Hid (n ≤ 256) := Lib.hid (by rw [← hnn]; exact HLX.out.n)
  rw [hnn] at HX77 HSQ ⊢
  clear hnn
  go_upto_region 9 with fail
  refine wl <| gz1 (.pointer (some ⟨g7, 0, none⟩)) <| gzl rfl ⟨g7, 0, none⟩ (.slice ad n k) (HX77.out.load (i := 0) rfl (by kernel_rfl)) <| gz2 (.int .i64 n) (.int .i64 0) <| wn ?_
  simp only [pu]
  go_wp2_with fail
  go_loopg [75] n (fun gg s75 wx => ∃ j : Nat, s75 = .int .i64 j ∧ j ≤ n ∧ Hid (Below V.heap.size V wx) ∧ n - j = gg)
  case atStart => exact ⟨0, rfl, by omega, Lib.hid (Below.refl _ _), by omega⟩
  case round =>
   obtain ⟨j, rfl, hj, HB, hg⟩ := hrel
   by_cases hlt : j < n
   ·skip
    obtain ⟨bb, off, rfl, -, hrx⟩ := ac_range (HC77.out.below HB.out) (k := j) (by rw [HN.out]; exact hlt)
    have HLD := Lib.hid (load_ac hrx)
    have hsq := HSQ.out j hlt
    have hxw := (HLX.out.w j (by rw [HN.out]; exact hlt)).2
    generalize aca X.1.1 j = x at *
    have HG := Lib.hid hg
    obtain ⟨V2, hst, hb2, hbx⟩ := new_ac wr x
    have CG := ref_get la lk B cc x.1 V2 ((HC37.out.below HB.out).below hb2) (by have := HLQ.out.n; omega)
    generalize (getX B x.1).2 = gb at *
    generalize (getX B x.1).1 = y at *
    have hX32 := (HX37.out.below HX37.out.lt HB.out).below (by have := HX37.out.lt; have := HB.out.size; omega) hb2
    have hn9 := HNL2.out
    clear hrx hg
    go_upto_region 10 with fail
    refine wl <| gzb (lss_n rfl (j) (n) dT) <| wn ?_
    simp only [pu]
    go_upto_region 11 with fail
    refine wl <| gzv (.pointer (some ⟨bb, off + j * 3, none⟩)) (idx_ac bb off n k j hlt _ _ _ rfl (by kernel_rfl) (by kernel_rfl)) <| gzl rfl ⟨bb, off + j * 3, none⟩ (.agg (acA x)) (HLD.out) ?_
    simp only [pu]
    refine run_to rfl (some 14) rfl (.pointer (some ⟨wr.heap.size, 0, none⟩)) (wr.alloc (.cells (acA zAc) 49)) (by kernel_rfl) ?_
    simp only [pu]
    refine gzs rfl (hst) <| wn ?_
    obtain ⟨g14, hg14⟩ : ∃ g, wr.heap.size = g := ⟨_, rfl⟩
    rw [hg14] at hbx hst ⊢
    clear hst HLD
    go_upto_region 12 with fail
    refine wl <| gzl rfl ⟨g3, 0, none⟩ (.agg (lgA la B.length lk cc)) (load_lg hX32) <| gz1 (.pointer (some ⟨g14, 0, none⟩)) <| gzl rfl ⟨g14, 0, none⟩ (.string x.1) (hbx.load (i := 0) rfl (by kernel_rfl)) <|
     gzc (.tuple #[.agg (acA y), .bool gb]) (fun w' => Below V2.heap.size V2 w') CG (fun V3 hV3 => ?_)
    obtain ⟨V4, hst4, hb4, hbx4⟩ := new_ac V3 y
    simp only [pu]
    refine gz3 (.tuple #[.agg (acA y), .bool gb]) (.agg (acA y)) (.bool gb) ?_
    simp only [pu]
    refine run_to rfl (some 15) rfl (.pointer (some ⟨V3.heap.size, 0, none⟩)) (V3.alloc (.cells (acA zAc) 49)) (by kernel_rfl) ?_
    simp only [pu]
    refine gzs rfl (hst4) <| gz1 (.bool gb) <| wn ?_
    simp only [pu]
    obtain ⟨g15, hg15⟩ : ∃ g, V3.heap.size = g := ⟨_, rfl⟩
    rw [hg15] at hbx4 ⊢
    have hb34 := hV3.trans (hb4.mono hV3.size)
    have HX14 := Lib.hid (hbx.below hbx.lt hb34)
    have hb24 := hb2.trans (hb34.mono hb2.size)
    have HB4 := Lib.hid (HB.out.trans (hb24.mono HB.out.size))
    have HX84 := Lib.hid (HX87.out.below HX87.out.lt HB4.out)
    clear CG hst4 hV3 hb4 hg15 hb34 hb24 hb2 hbx hX32
    go_upto_region 13 with fail
    refine wl <| gz1 (.pointer (some ⟨g15, 2, none⟩)) <| gzl rfl ⟨g15, 2, none⟩ (.int .u64 y.2.2) (hbx4.load (i := 2) rfl (by kernel_rfl)) <| gz1 (.int .u64 y.2.2) <| wn ?_
    simp only [pu]
    by_cases hs : x.1 = X.2.snd
    ·skip
     rw [if_pos ⟨hc, hs⟩] at hsq
     go_upto_region 14 with fail
     refine wl <| gz1 (.pointer (some ⟨g8, 0, none⟩)) <| gzl rfl ⟨g8, 0, none⟩ (.int .i64 X.2.code) (HX84.out.load (i := 0) rfl (by kernel_rfl)) <| gzb (eql_e rfl X.2.code 0 (decide_eq_true hc)) <|
      gz2 (.bool true) (.pointer (some ⟨g14, 0, none⟩)) <| gzl rfl ⟨g14, 0, none⟩ (.string x.1) (HX14.out.load (i := 0) rfl (by kernel_rfl)) <| gz1 (.pointer (some ⟨g8, 1, none⟩)) <| gzl rfl ⟨g8, 1, none⟩ (.string X.2.snd) (HX84.out.load (i := 1) rfl (by kernel_rfl)) <|
      gzb (eql_ss rfl x.1 X.2.snd (decide_eq_true hs)) <| gz1 (.bool true) <| wn ?_
     simp only [pu]
     go_upto_region 15 with fail
     refine wl <| gz1 (.int .u64 y.2.2) <| gzw (.int .u64 (y.2.2 + 1)) (add_ub rfl y.2.2 1 (by rw [← hsq]; exact hxw)) <| gz1 (.int .u64 (y.2.2 + 1)) <| wn ?_
     simp only [pu]
     go_upto_region 16 with fail
     refine wl <| gz1 (.pointer (some ⟨g14, 2, none⟩)) <| gzl rfl ⟨g14, 2, none⟩ (.int .u64 x.2.2) (HX14.out.load (i := 2) rfl (by kernel_rfl)) <| gz1 (.int .u64 (y.2.2 + 1)) <| gzb (neq_u6 rfl x.2.2 (y.2.2 + 1) (decide_eq_true hsq)) <|
      wpList_nil ?_
     simp only [pu]
     go_upto_region 18 with fail
     refine wl <| gzw (.int .i64 (j + 1 : Nat)) (add_nat rfl j 1 (by omega)) <| gz1 (.int .i64 (j + 1 : Nat)) <| wn ?_
     simp only [pu]
     go_wp2_with fail
     go_roundg (n - (j + 1))
     case measure => have := HG.out; omega
     case rel => exact ⟨j + 1, rfl, hlt, HB4, rfl⟩
    ·skip
     rw [if_neg (fun q => hs q.2)] at hsq
     go_upto_region 14 with fail
     refine wl <| gz1 (.pointer (some ⟨g8, 0, none⟩)) <| gzl rfl ⟨g8, 0, none⟩ (.int .i64 X.2.code) (HX84.out.load (i := 0) rfl (by kernel_rfl)) <| gzb (eql_e rfl X.2.code 0 (decide_eq_true hc)) <|
      gz2 (.bool true) (.pointer (some ⟨g14, 0, none⟩)) <| gzl rfl ⟨g14, 0, none⟩ (.string x.1) (HX14.out.load (i := 0) rfl (by kernel_rfl)) <| gz1 (.pointer (some ⟨g8, 1, none⟩)) <| gzl rfl ⟨g8, 1, none⟩ (.string X.2.snd) (HX84.out.load (i := 1) rfl (by kernel_rfl)) <|
      gzb (eql_ss rfl x.1 X.2.snd (decide_eq_false hs)) <| gz1 (.bool false) <| wn ?_
     simp only [pu]
     go_upto_region 16 with fail
     refine wl <| gz1 (.pointer (some ⟨g14, 2, none⟩)) <| gzl rfl ⟨g14, 2, none⟩ (.int .u64 x.2.2) (HX14.out.load (i := 2) rfl (by kernel_rfl)) <| gz1 (.int .u64 y.2.2) <| gzb (neq_u6 rfl x.2.2 (y.2.2) (decide_eq_true hsq)) <|
      wpList_nil ?_
     simp only [pu]
     go_upto_region 18 with fail
     refine wl <| gzw (.int .i64 (j + 1 : Nat)) (add_nat rfl j 1 (by omega)) <| gz1 (.int .i64 (j + 1 : Nat)) <| wn ?_
     simp only [pu]
     go_wp2_with fail
     go_roundg (n - (j + 1))
     case measure => have := HG.out; omega
     case rel => exact ⟨j + 1, rfl, hlt, HB4, rfl⟩
   ·skip
    obtain rfl : n = j := by omega
    go_upto_region 10 with fail
    refine wl <| gzb (lss_n rfl (n) (n) dF) <| wn ?_
    simp only [pu]
    go_upto_region 19 with fail
    refine wl <| gzc (.bool true) (fun w' => Below w.heap.size w w') (HK.out wr (HB7.out.trans (HB.out.mono HB7.out.size))) (fun V9 hV9 => ?_)
    simp only [pu]
    refine gz1 (.bool true) <| wn ?_
    simp only [pu]
    have HE := Lib.hid hV9
    clear hV9
    go_wp2_with fail
    go_ret
    exact ⟨rfl, HE.out⟩
 ·skip
  go_upto_region 7 with fail
  refine wp_region_class (C := fun U => Below V6.heap.size V6 U) (by kernel_rfl) (by kernel_rfl) ((Below.refl _ V6).drew) ?_
  refine gy (.int .u64 tv) <| gy (.int .u64 tv) <| gyv (.bool false) (fun U hU => neq_u6 rfl tv tv (decide_eq_true rfl) (by kernel_rfl) (by kernel_rfl) _) <| gy (.bool false) <| gy (.bool tb) <| gy (.bool tb) <| gyv (.bool false) (fun U hU => neq_bb rfl tb (by kernel_rfl) (by kernel_rfl) _) <|
    gy (.bool false) <| gy (.bool false) <| gyl rfl ⟨g7, 0, none⟩ (.agg (lgA ad X.1.1.length k X.1.2)) (fun U hU => load_lg (HX76.out.below HX76.out.lt hU)) ?_
  simp only [pu]
  refine gq_call (by kernel_rfl) (some 56) rfl 22 #[.agg (lgA ad X.1.1.length k X.1.2)] (.int .i64 0) (fun U hU => by kernel_rfl) (fun U hU => (CV1.out U hU).mono fun e w2 q => ⟨q.1, hU.trans (q.2.mono hU.size)⟩) ?_
  simp only [pu]
  refine gyl rfl ⟨g3, 0, none⟩ (.agg (lgA la B.length lk cc)) (fun U hU => load_lg (HX36.out.below HX36.out.lt hU)) ?_
  simp only [pu]
  refine gq_call (by kernel_rfl) (some 58) rfl 22 #[.agg (lgA la B.length lk cc)] (.int .i64 0) (fun U hU => by kernel_rfl) (fun U hU => (CV2.out U hU).mono fun e w2 q => ⟨q.1, hU.trans (q.2.mono hU.size)⟩) ?_
  simp only [pu]
  refine gyv (.bool false) (fun U hU => neq_e rfl 0 0 (decide_eq_true rfl) (by kernel_rfl) (by kernel_rfl) _) <| gy (.bool false) <| gy (.bool false) <| gy (.pointer (some ⟨g8, 0, none⟩)) <|
    gyl rfl ⟨g8, 0, none⟩ (.int .i64 X.2.code) (fun U hU => (HX86.out.below HX86.out.lt hU).load (i := 0) rfl (by kernel_rfl)) <| gyv (.bool true) (fun U hU => neq_e rfl X.2.code 0 (decide_eq_false hc) (by kernel_rfl) (by kernel_rfl) _) <| gy (.bool true) <|
    gyl rfl ⟨g7, 0, none⟩ (.agg (lgA ad X.1.1.length k X.1.2)) (fun U hU => load_lg (HX76.out.below HX76.out.lt hU)) <| gyl rfl ⟨g3, 0, none⟩ (.agg (lgA la B.length lk cc)) (fun U hU => load_lg (HX36.out.below HX36.out.lt hU)) ?_
  simp only [pu]
  refine gq_call (by kernel_rfl) (some 68) rfl 13 #[.agg (lgA ad X.1.1.length k X.1.2), .agg (lgA la B.length lk cc)] (.bool true) (fun U hU => by kernel_rfl) (fun U hU => (HSC.out hc U hU).mono fun e w2 q => ⟨q.1, hU.trans (q.2.mono hU.size)⟩) ?_
  simp only [pu]
  refine gy (.bool false) <| gy (.bool false) <| gy (.bool false) ?_
  simp only [pu]
  apply wpQuiet_nil
  intro V hV
  have HB7 := Lib.hid (HB6.out.trans (hV.mono HB6.out.size))
  have HX77 := Lib.hid (HX76.out.below HX76.out.lt hV)
  have HX87 := Lib.hid (HX86.out.below HX86.out.lt hV)
  have HX37 := Lib.hid (HX36.out.below HX36.out.lt hV)
  have HC77 := Lib.hid (HC76.out.below hV)
  have HC37 := Lib.hid (HC36.out.below hV)
  clear hV HX76 HX86 HX36 HC76 HC36 CV1 CV2 HSC HB6
  obtain ⟨n, hnn⟩ : ∃ n, X.1.1.length = n := ⟨_, rfl⟩
  have HN := Lib.hid hnn
  have HNL2 : Hid (n ≤ 256) := Lib.hid (by rw [← hnn]; exact HLX.out.n)
  rw [hnn] at HX77 HSQ ⊢
  clear hnn
  go_upto_region 9 with fail
  refine wl <| gz1 (.pointer (some ⟨g7, 0, none⟩)) <| gzl rfl ⟨g7, 0, none⟩ (.slice ad n k) (HX77.out.load (i := 0) rfl (by kernel_rfl)) <| gz2 (.int .i64 n) (.int .i64 0) <| wn ?_
  simp only [pu]
  go_wp2_with fail
  go_loopg [75] n (fun gg s75 wx => ∃ j : Nat, s75 = .int .i64 j ∧ j ≤ n ∧ Hid (Below V.heap.size V wx) ∧ n - j = gg)
  case atStart => exact ⟨0, rfl, by omega, Lib.hid (Below.refl _ _), by omega⟩
  case round =>
   obtain ⟨j, rfl, hj, HB, hg⟩ := hrel
   by_cases hlt : j < n
   ·skip
    obtain ⟨bb, off, rfl, -, hrx⟩ := ac_range (HC77.out.below HB.out) (k := j) (by rw [HN.out]; exact hlt)
    have HLD := Lib.hid (load_ac hrx)
    have hsq := HSQ.out j hlt
    have hxw := (HLX.out.w j (by rw [HN.out]; exact hlt)).2
    generalize aca X.1.1 j = x at *
    have HG := Lib.hid hg
    obtain ⟨V2, hst, hb2, hbx⟩ := new_ac wr x
    have CG := ref_get la lk B cc x.1 V2 ((HC37.out.below HB.out).below hb2) (by have := HLQ.out.n; omega)
    generalize (getX B x.1).2 = gb at *
    generalize (getX B x.1).1 = y at *
    have hX32 := (HX37.out.below HX37.out.lt HB.out).below (by have := HX37.out.lt; have := HB.out.size; omega) hb2
    have hn9 := HNL2.out
    clear hrx hg
    go_upto_region 10 with fail
    refine wl <| gzb (lss_n rfl (j) (n) dT) <| wn ?_
    simp only [pu]
    go_upto_region 11 with fail
    refine wl <| gzv (.pointer (some ⟨bb, off + j * 3, none⟩)) (idx_ac bb off n k j hlt _ _ _ rfl (by kernel_rfl) (by kernel_rfl)) <| gzl rfl ⟨bb, off + j * 3, none⟩ (.agg (acA x)) (HLD.out) ?_
    simp only [pu]
    refine run_to rfl (some 14) rfl (.pointer (some ⟨wr.heap.size, 0, none⟩)) (wr.alloc (.cells (acA zAc) 49)) (by kernel_rfl) ?_
    simp only [pu]
    refine gzs rfl (hst) <| wn ?_
    obtain ⟨g14, hg14⟩ : ∃ g, wr.heap.size = g := ⟨_, rfl⟩
    rw [hg14] at hbx hst ⊢
    clear hst HLD
    go_upto_region 12 with fail
    refine wl <| gzl rfl ⟨g3, 0, none⟩ (.agg (lgA la B.length lk cc)) (load_lg hX32) <| gz1 (.pointer (some ⟨g14, 0, none⟩)) <| gzl rfl ⟨g14, 0, none⟩ (.string x.1) (hbx.load (i := 0) rfl (by kernel_rfl)) <|
     gzc (.tuple #[.agg (acA y), .bool gb]) (fun w' => Below V2.heap.size V2 w') CG (fun V3 hV3 => ?_)
    obtain ⟨V4, hst4, hb4, hbx4⟩ := new_ac V3 y
    simp only [pu]
    refine gz3 (.tuple #[.agg (acA y), .bool gb]) (.agg (acA y)) (.bool gb) ?_
    simp only [pu]
    refine run_to rfl (some 15) rfl (.pointer (some ⟨V3.heap.size, 0, none⟩)) (V3.alloc (.cells (acA zAc) 49)) (by kernel_rfl) ?_
    simp only [pu]
    refine gzs rfl (hst4) <| gz1 (.bool gb) <| wn ?_
    simp only [pu]
    obtain ⟨g15, hg15⟩ : ∃ g, V3.heap.size = g := ⟨_, rfl⟩
    rw [hg15] at hbx4 ⊢
    have hb34 := hV3.trans (hb4.mono hV3.size)
    have HX14 := Lib.hid (hbx.below hbx.lt hb34)
    have hb24 := hb2.trans (hb34.mono hb2.size)
    have HB4 := Lib.hid (HB.out.trans (hb24.mono HB.out.size))
    have HX84 := Lib.hid (HX87.out.below HX87.out.lt HB4.out)
    clear CG hst4 hV3 hb4 hg15 hb34 hb24 hb2 hbx hX32
    go_upto_region 13 with fail
    refine wl <| gz1 (.pointer (some ⟨g15, 2, none⟩)) <| gzl rfl ⟨g15, 2, none⟩ (.int .u64 y.2.2) (hbx4.load (i := 2) rfl (by kernel_rfl)) <| gz1 (.int .u64 y.2.2) <| wn ?_
    simp only [pu]
    rw [if_neg (fun q => hc q.1)] at hsq
    go_upto_region 14 with fail
    refine wl <| gz1 (.pointer (some ⟨g8, 0, none⟩)) <| gzl rfl ⟨g8, 0, none⟩ (.int .i64 X.2.code) (HX84.out.load (i := 0) rfl (by kernel_rfl)) <| gzb (eql_e rfl X.2.code 0 (decide_eq_false hc)) <|
     gz6 (.bool false) undef undef undef undef undef <| gz1 (.bool false) <| wn ?_
    simp only [pu]
    go_upto_region 16 with fail
    refine wl <| gz1 (.pointer (some ⟨g14, 2, none⟩)) <| gzl rfl ⟨g14, 2, none⟩ (.int .u64 x.2.2) (HX14.out.load (i := 2) rfl (by kernel_rfl)) <| gz1 (.int .u64 y.2.2) <| gzb (neq_u6 rfl x.2.2 (y.2.2) (decide_eq_true hsq)) <| wn ?_
    simp only [pu]
    go_upto_region 18 with fail
    refine wl <| gzw (.int .i64 (j + 1 : Nat)) (add_nat rfl j 1 (by omega)) <| gz1 (.int .i64 (j + 1 : Nat)) <| wn ?_
    simp only [pu]
    go_wp2_with fail
    go_roundg (n - (j + 1))
    case measure => have := HG.out; omega
    case rel => exact ⟨j + 1, rfl, hlt, HB4, rfl⟩
   ·skip
    obtain rfl : n = j := by omega
    go_upto_region 10 with fail
    refine wl <| gzb (lss_n rfl (n) (n) dF) <| wn ?_
    simp only [pu]
    go_upto_region 19 with fail
    refine wl <| gzc (.bool true) (fun w' => Below w.heap.size w w') (HK.out wr (HB7.out.trans (HB.out.mono HB7.out.size))) (fun V9 hV9 => ?_)
    simp only [pu]
    refine gz1 (.bool true) <| wn ?_
    simp only [pu]
    have HE := Lib.hid hV9
    clear hV9
    go_wp2_with fail
    go_ret
    exact ⟨rfl, HE.out⟩
end Go.Proofs.YtglglhcnofbagaaGreat.Lg
namespace Go.Proofs.YtglglhcnofbagaaGreat.Lg.applyTotals
set_option maxRecDepth 100000
open Go.ChangeShapes Go.WideShapes Go.ChangeAt Go.RowKit
set_option linter.unusedVariables false

theorem own : ownKnob Tryz.prog.godebug = none := by kernel_rfl
theorem size_list (x : ByteArray) : x.data.toList.length = x.size := Array.length_toList
theorem laidOut : laidOutB Tryz.prog = true := by kernel_rfl

theorem walk (a0 : Option Addr) (c0 : Nat) (L0 : List Int) (w : World) (l0 : L0.length ≤ 9223372036854775807) (r0 : Cs w a0 (icells L0)) :
    Calls Tryz.prog 5 #[.slice a0 L0.length c0] w fun e w' => e = .returned (.bool true) ∧ Below w.heap.size w w' := by
  exact totals_core a0 c0 L0 w l0 r0

set_option maxRecDepth 100000 in
set_option maxHeartbeats 1000000 in
theorem contract (H : Type) (enc : TypeId × Value → H) (W : World) (base : Nat) (args : Array Value) (ds gs : List (DataW H)) (before : List MemPlace)
    (hval0 : ∀ (j : Nat) t v, Tryz.f5.params[j]? = some t → args[j]? = some v → Value.okWide Tryz.prog W .any base t v)
    (hW : DataW.Whole enc Tryz.prog Tryz.f5.params.toList Rows.applyTotalsSpec.vars false W args.toList ds gs before)
    (hz : (DataW.weightsEach Tryz.prog (Tryz.f5.params.toList ++ Rows.applyTotalsSpec.plain.varTypes Tryz.prog) (ds ++ gs)).all (· ≤ reachBytes) = true) :
    Calls Tryz.prog 5 args W fun e W' => ∃ v, e = .returned v ∧ Rows.applyTotalsSpec.post enc Tryz.prog Tryz.f5 false true false false W args v W' := by
  have hval := hval0
  have hW' := hW
  obtain ⟨p, q, hA0, hV, rfl, hfz, hnd⟩ := hW
  have hA := hA0
  rw [Tryz.params5] at hA hval
  obtain ⟨v0, vs0, d0, ds0, p0, q0, hargs, rfl, rfl, h0, rr0⟩ := trodAll_cons hA
  obtain ⟨rfl, rfl, rfl⟩ := trodAll_nil rr0
  obtain rfl : args = #[v0] := by cases args; simp_all
  obtain ⟨rfl, rfl⟩ := trodVars_none hV
  have k0 := h0
  have lt0 : ∀ x ∈ p0, x.block < W.heap.size := by obtain ⟨m, hm⟩ := k0; exact DataW.trod_lt m _ _ _ hm
  obtain ⟨a0, _, c0, rfl⟩ := okWide_slice Tryz.underlying27 (hval 0 27 v0 rfl rfl)
  obtain ⟨_, hf0⟩ := h0
  obtain ⟨_, _, L0, e0, l0, r0⟩ := ints_arg hf0
  simp only [Value.cells, List.cons.injEq, Value.slice.injEq, and_true] at e0
  obtain ⟨rfl, rfl, rfl⟩ := e0
  clear hA0 hval0
  refine (walk a0 c0 L0 W l0 r0).mono fun e W' ⟨he, bel⟩ => ?_
  subst he
  exact ⟨_, rfl, _, _, _, [], _, [], hW', trodAll_mk1 (shut_bool Tryz.underlying4 _), (trodAll_cons_mk (Below.trod laidOut (by kernel_rfl) (of_decide_eq_true (by kernel_rfl)) k0 bel lt0) trodAll_mk0), rfl, bel.frame _, fun h => by cases h⟩

set_option maxRecDepth 100000 in
theorem lifted (os : Os) (started : os.Started) (H : Type) (enc : TypeId × Value → H) :
    ReturnsInHanded {} Tryz.checked os 5 .any (Rows.applyTotalsSpec.pre6 enc Tryz.prog Tryz.f5 Rows.applyTotalsRow.domain false) (Rows.applyTotalsSpec.post enc Tryz.prog Tryz.f5 false true false false) := by
  refine returnsInHanded_of_change_sized (C := Tryz.checked) own started (by kernel_rfl) Tryz.func5
    (ChangeSpec.witness6 (enc := enc) (C := Tryz.checked) false ⟨#[], #[.slice none 0 0], []⟩ 8 (by kernel_rfl) (by kernel_rfl) (by kernel_rfl) (by kernel_rfl)) ?_
  intro W base args ds gs before hval hW _ hz _
  exact contract H enc W base args ds gs before hval hW hz

/-- THE STATEMENT -/
theorem proved : Rows.ApplyTotalsSaid :=
  OpenClaim.holds_of_wide 5 Tryz.f5 rfl rfl rfl rfl rfl rfl rfl ⟨rfl, rfl, rfl, rfl, rfl⟩ rfl rfl rfl rfl rfl (by kernel_rfl) Tryz.func5 (by kernel_rfl)
    (of_decide_eq_true (by kernel_rfl)) (by unfold Func.isWrapper; first | (rw [if_pos (by decide +kernel)]; kernel_rfl) | (rw [if_neg (by decide +kernel)]; exact ⟨rfl, rfl⟩))
    (fun os started H enc _ => lifted os started H enc)
#print axioms proved
end Go.Proofs.YtglglhcnofbagaaGreat.Lg.applyTotals
