/-
  The reference's ValidateTx: contract. The reference's number: contract. A row that a call made reads as its fields; the fixed example returns true.
  Conditions: none of their own. Rows of fields whose bytes lie anywhere apart from the row; the reference's number and text over them.
-/
import Derived.Test.YtglglhcnofbagaaGreatK5
import Derived.Test.YtglglhcnofbagaaGreatK4
import Derived.Test.YtglglhcnofbagaaGreatK3
import Derived.Lib.SlBytesConst
import Derived.Lib.SmallJoins
import Derived.Lib.ConvBytes
namespace Go.Proofs.YtglglhcnofbagaaGreat
attribute [local irreducible] wpList wpQuiet
open Go.RowKit
set_option linter.unusedSimpArgs false
set_option linter.unusedVariables false

theorem eql_u0 {ρ : Operand → Value} {o : Oper} {x y : Operand} (ho : o.op = .binOp .eql 23 x y 23) (a : Int) {t : Bool} (ht : decide (a = 0) = t) (hx : ρ x = .int .u64 a) (hy : ρ y = .int .u64 0) (w : World) : (execOp ρ o).run Tryz.prog w = .ok (.value (.bool t)) w := by
 have e : (a == 0) = t := ht
 unfold execOp
 simp only [ho, hx, hy]
 go_simp
theorem gtr_n {ρ : Operand → Value} {o : Oper} {x y : Operand} (ho : o.op = .binOp .gtr 3 x y 3) (a b : Int) {t : Bool} (ht : decide (b < a) = t) (hx : ρ x = .int .i64 a) (hy : ρ y = .int .i64 b) (w : World) : (execOp ρ o).run Tryz.prog w = .ok (.value (.bool t)) w := by
 rw [← ht]
 unfold execOp
 simp only [ho, hx, hy]
 go_simp
set_option maxRecDepth 100000 in
set_option maxHeartbeats 8000000 in
theorem ref_validate (x : Txd) (a : Option Addr) (c : Nat) (w : World) (hR : Cs w a (tfc x.tr)) (h1 : x.snd.size ≤ 140737488355328) (h2 : x.memo.size ≤ 140737488355328) (h3 : ∀ y, y ∈ x.tr → y.1.size ≤ 140737488355328) :
  Calls Tryz.prog 39 #[.agg (txA x a c)] w fun e w' => e = .returned (.int .i64 (valX x)) ∧ Below w.heap.size w w' := by
 have hb0 : Below w.heap.size w (w.alloc (.cells (txA x a c) 46)) := (Below.refl _ w).alloc (Nat.le_refl _) _
 have hX0 : Bx (w.alloc (.cells (txA x a c) 46)) w.heap.size (txA x a c) 46 := heap_alloc_last w _
 have HA := Lib.hid (hR.below hb0)
 have CN := Lib.hid (fun V => ref_isname x.snd V h1)
 have CM := Lib.hid (fun V => ref_ismemo x.memo V h2)
 have HV : Hid (valX x = if isName (nums x.snd) = false then 10 else if x.gas = 0 then 15 else if isMemo (nums x.memo) = false then 11 else if x.tr.length = 0 ∨ 16 < x.tr.length then 3 else valT x.tr) := Lib.hid rfl
 have HT := Lib.hid (fun j (hj : j < x.tr.length) V => ref_isname (tfa x.tr j).1 V (h3 _ (by rw [tfa_get hj]; exact List.getElem_mem hj)))
 obtain ⟨snd, sq, gas, fee, memo, M⟩ := x
 simp only [txA] at hb0 hX0 HA ⊢
 dsimp only at *
 have HO := Lib.hid (Okt.zero M)
 generalize valX _ = r at *
 generalize isName (nums snd) = t1 at *
 generalize isMemo (nums memo) = t2 at *
 obtain ⟨n, hn⟩ : ∃ n, M.length = n := ⟨_, rfl⟩
 have HN := Lib.hid hn
 rw [hn] at hb0 hX0 HA HV ⊢
 clear hR h1 h2 h3
 go_enter Tryz.func39, Tryz.ntmps39
 go_upto_region 1 with fail
 change Code.wp _ _ _ _ (w.alloc (.cells #[.string snd, .int .u64 sq, .int .u64 gas, .int .u64 fee, .string memo, .slice a n c] 46))
 generalize w.alloc (.cells #[.string snd, .int .u64 sq, .int .u64 gas, .int .u64 fee, .string memo, .slice a n c] 46) = W at *
 obtain ⟨g0, hg0⟩ : ∃ g0, w.heap.size = g0 := ⟨_, rfl⟩
 have HB0 := Lib.hid hb0
 have HG0 := Lib.hid hg0
 rw [hg0] at hX0
 simp only [hg0]
 clear hb0 hg0 hn
 have CNW := CN.out W
 have CMW := CM.out W
 clear CN CM
 cases t1
 ·skip
  refine wl <| gz1 (.pointer (some ⟨g0, 0, none⟩)) <| gzl rfl ⟨g0, 0, none⟩ (.string snd) (hX0.load (i := 0) rfl (by kernel_rfl)) <| gzc (.bool false) (fun w' => W = w') (CNW) (fun V hV => ?_)
  subst hV
  simp only [pu]
  refine gz2 (.bool true) (.bool true) <| wn ?_
  simp only [pu]
  have HE : Hid (r = 10) := Lib.hid (by rw [HV.out]; rfl)
  clear HV
  go_upto_region 2 with fail
  refine wl <| gz1 (.int .i64 10) <| wn ?_
  simp only [pu]
  go_wp2_with fail
  go_ret
  rw [HE.out]
  exact ⟨rfl, HB0.out⟩
 ·skip
  refine wl <| gz1 (.pointer (some ⟨g0, 0, none⟩)) <| gzl rfl ⟨g0, 0, none⟩ (.string snd) (hX0.load (i := 0) rfl (by kernel_rfl)) <| gzc (.bool true) (fun w' => W = w') (CNW) (fun V hV => ?_)
  subst hV
  simp only [pu]
  refine gz2 (.bool false) (.bool false) <| wn ?_
  simp only [pu]
  clear CNW
  go_upto_region 3 with fail
  by_cases hgas : gas = 0
  ·skip
   refine wl <| gz1 (.pointer (some ⟨g0, 2, none⟩)) <| gzl rfl ⟨g0, 2, none⟩ (.int .u64 gas) (hX0.load (i := 2) rfl (by kernel_rfl)) <| gzb (eql_u0 rfl gas (decide_eq_true hgas)) <| gz1 (.bool true) <| wn ?_
   simp only [pu]
   have HE : Hid (r = 15) := Lib.hid (by rw [HV.out]; rw [if_neg (by decide), if_pos hgas])
   clear HV
   go_upto_region 4 with fail
   refine wl <| gz1 (.int .i64 15) <| wn ?_
   simp only [pu]
   go_wp2_with fail
   go_ret
   rw [HE.out]
   exact ⟨rfl, HB0.out⟩
  ·skip
   refine wl <| gz1 (.pointer (some ⟨g0, 2, none⟩)) <| gzl rfl ⟨g0, 2, none⟩ (.int .u64 gas) (hX0.load (i := 2) rfl (by kernel_rfl)) <| gzb (eql_u0 rfl gas (decide_eq_false hgas)) <| gz1 (.bool false) <| wn ?_
   simp only [pu]
   go_upto_region 5 with fail
   cases t2
   ·skip
    refine wl <| gz1 (.pointer (some ⟨g0, 4, none⟩)) <| gzl rfl ⟨g0, 4, none⟩ (.string memo) (hX0.load (i := 4) rfl (by kernel_rfl)) <| gzc (.bool false) (fun w' => W = w') (CMW) (fun V hV => ?_)
    subst hV
    simp only [pu]
    refine gz2 (.bool true) (.bool true) <| wn ?_
    simp only [pu]
    have HE : Hid (r = 11) := Lib.hid (by rw [HV.out]; rw [if_neg (by decide), if_neg hgas, if_pos rfl])
    clear HV
    go_upto_region 6 with fail
    refine wl <| gz1 (.int .i64 11) <| wn ?_
    simp only [pu]
    go_wp2_with fail
    go_ret
    rw [HE.out]
    exact ⟨rfl, HB0.out⟩
   ·skip
    refine wl <| gz1 (.pointer (some ⟨g0, 4, none⟩)) <| gzl rfl ⟨g0, 4, none⟩ (.string memo) (hX0.load (i := 4) rfl (by kernel_rfl)) <| gzc (.bool true) (fun w' => W = w') (CMW) (fun V hV => ?_)
    subst hV
    simp only [pu]
    refine gz2 (.bool false) (.bool false) <| wn ?_
    simp only [pu]
    clear CMW
    go_upto_region 7 with fail
    rcases (show n = 0 ∨ 16 < n ∨ (0 < n ∧ n ≤ 16) by omega) with hc | hc | hc
    ·subst hc
     refine wl <| gz1 (.pointer (some ⟨g0, 5, none⟩)) <| gzl rfl ⟨g0, 5, none⟩ (.slice a 0 c) (hX0.load (i := 5) rfl (by kernel_rfl)) <| gz6 (.int .i64 0) (.bool true) (.bool true) undef undef undef <| gz3 undef (.bool true) (.bool true) <| wn ?_
     simp only [pu]
     have HE : Hid (r = 3) := Lib.hid (by rw [HV.out]; rw [if_neg (by decide), if_neg hgas, if_neg (by decide), if_pos (.inl rfl)])
     clear HV
     go_upto_region 8 with fail
     refine wl <| gz1 (.int .i64 3) <| wn ?_
     simp only [pu]
     go_wp2_with fail
     go_ret
     rw [HE.out]
     exact ⟨rfl, HB0.out⟩
    ·skip
     refine wl <| gz1 (.pointer (some ⟨g0, 5, none⟩)) <| gzl rfl ⟨g0, 5, none⟩ (.slice a n c) (hX0.load (i := 5) rfl (by kernel_rfl)) <| gz1 (.int .i64 n) <| gzb (eql_i0 rfl n dF) <|
      gz2 (.bool false) (.pointer (some ⟨g0, 5, none⟩)) <| gzl rfl ⟨g0, 5, none⟩ (.slice a n c) (hX0.load (i := 5) rfl (by kernel_rfl)) <| gz1 (.int .i64 n) <| gzb (gtr_n rfl n 16 dT) <| gz2 (.bool true) (.bool true) <|
      wpList_nil ?_
     simp only [pu]
     have HE : Hid (r = 3) := Lib.hid (by rw [HV.out]; rw [if_neg (by decide), if_neg hgas, if_neg (by decide), if_pos (.inr hc)])
     clear HV
     go_upto_region 8 with fail
     refine wl <| gz1 (.int .i64 3) <| wn ?_
     simp only [pu]
     go_wp2_with fail
     go_ret
     rw [HE.out]
     exact ⟨rfl, HB0.out⟩
    ·skip
     refine wl <| gz1 (.pointer (some ⟨g0, 5, none⟩)) <| gzl rfl ⟨g0, 5, none⟩ (.slice a n c) (hX0.load (i := 5) rfl (by kernel_rfl)) <| gz1 (.int .i64 n) <| gzb (eql_i0 rfl n dF) <|
      gz2 (.bool false) (.pointer (some ⟨g0, 5, none⟩)) <| gzl rfl ⟨g0, 5, none⟩ (.slice a n c) (hX0.load (i := 5) rfl (by kernel_rfl)) <| gz1 (.int .i64 n) <| gzb (gtr_n rfl n 16 dF) <| gz2 (.bool false) (.bool false) <|
      wpList_nil ?_
     simp only [pu]
     have HE : Hid (r = valT M) := Lib.hid (by rw [HV.out, if_neg (by decide), if_neg hgas, if_neg (by decide), if_neg (by omega)])
     clear HV
     go_upto_region 9 with fail
     refine wl <| gz1 (.pointer (some ⟨g0, 5, none⟩)) <| gzl rfl ⟨g0, 5, none⟩ (.slice a n c) (hX0.load (i := 5) rfl (by kernel_rfl)) <| gz2 (.int .i64 n) (.int .i64 0) <| wn ?_
     simp only [pu]
     have HS0 := Lib.hid hX0
     clear hX0
     go_wp2_with fail
     go_loopg [33] n (fun gg s33 wx => ∃ j : Nat, s33 = .int .i64 j ∧ j ≤ n ∧ Hid (Okt M j) ∧ Hid (Below W.heap.size W wx) ∧ n - j = gg)
     case atStart => exact ⟨0, rfl, by omega, HO, Lib.hid (Below.refl _ _), by omega⟩
     case round =>
      obtain ⟨j, rfl, hj, HK, HB, hg⟩ := hrel
      clear HO
      by_cases hlt : j < n
      ·have HD : Hid (decide ((j : Int) < (n : Int)) = true) := Lib.hid dT
       have HG : Hid (n - (j + 1) = gk - 1 ∧ 0 < gk ∧ j + 1 ≤ n) := Lib.hid ⟨by omega, by omega, by omega⟩
       have hjm : j < M.length := by rw [HN.out]; exact hlt
       obtain ⟨b, off, rfl, -, hrx⟩ := tf_range (HA.out.below HB.out) (k := j) hjm
       have HLD := Lib.hid (load_tf hrx)
       have CT := Lib.hid (fun V => HT.out j hjm V)
       have HK1 := Lib.hid (HK.out.name hjm)
       have HK2 := Lib.hid (HK.out.zam hjm)
       have HK3 := Lib.hid (HK.out.step hjm)
       generalize tfa M j = y at *
       obtain ⟨V2, hst, hb2, hbx⟩ := new_tf wr y
       have HB2 := Lib.hid (HB.out.trans (hb2.mono HB.out.size))
       clear hrx hb2 HK HB hjm hg
       go_upto_region 10 with fail
       refine wl <| gzw (.bool true) (lss_n rfl j n HD.out) <| wn ?_
       simp only [pu]
       go_upto_region 11 with fail
       refine wl <| gzv (.pointer (some ⟨b, off + j * 2, none⟩)) (idx_tf b off n c j hlt _ _ _ rfl (by kernel_rfl) (by kernel_rfl)) <| gzl rfl ⟨b, off + j * 2, none⟩ (.agg (tfA y)) HLD.out ?_
       simp only [pu]
       refine run_to rfl (some 4) rfl (.pointer (some ⟨wr.heap.size, 0, none⟩)) (wr.alloc (.cells (tfA zTf) 59)) (by kernel_rfl) ?_
       simp only [pu]
       refine gzs rfl hst <| wn ?_
       obtain ⟨g4, hg4⟩ : ∃ g4, wr.heap.size = g4 := ⟨_, rfl⟩
       rw [hg4] at hbx ⊢
       clear hst hg4 HLD
       have CTV := CT.out V2
       clear CT
       generalize isName (nums y.1) = ty at *
       go_upto_region 12 with fail
       cases ty
       ·skip
        refine wl <| gz1 (.pointer (some ⟨g4, 0, none⟩)) <| gzl rfl ⟨g4, 0, none⟩ (.string y.1) (hbx.load (i := 0) rfl (by kernel_rfl)) <| gzc (.bool false) (fun w' => V2 = w') CTV (fun V hV => ?_)
        subst hV
        simp only [pu]
        refine gz1 (.bool true) <| wn ?_
        simp only [pu]
        have HE2 : Hid (r = 10) := Lib.hid (by rw [HE.out]; exact HK1.out rfl)
        have HB9 := Lib.hid (HB0.out.trans (HB2.out.mono HB0.out.size))
        clear HE HB2 HK1 HK2 HK3 HB0
        go_upto_region 13 with fail
        refine wl <| gz1 (.int .i64 10) <| wn ?_
        simp only [pu]
        go_wp2_with fail
        go_ret
        rw [HE2.out]
        exact ⟨rfl, HB9.out⟩
       ·skip
        refine wl <| gz1 (.pointer (some ⟨g4, 0, none⟩)) <| gzl rfl ⟨g4, 0, none⟩ (.string y.1) (hbx.load (i := 0) rfl (by kernel_rfl)) <| gzc (.bool true) (fun w' => V2 = w') CTV (fun V hV => ?_)
        subst hV
        simp only [pu]
        refine gz1 (.bool false) <| wn ?_
        simp only [pu]
        clear CTV
        go_upto_region 14 with fail
        by_cases h0 : y.2 = 0
        ·skip
         refine wl <| gz1 (.pointer (some ⟨g4, 1, none⟩)) <| gzl rfl ⟨g4, 1, none⟩ (.int .u64 y.2) (hbx.load (i := 1) rfl (by kernel_rfl)) <| gzb (eql_u0 rfl y.2 (decide_eq_true h0)) <| wn ?_
         simp only [pu]
         have HE2 : Hid (r = 12) := Lib.hid (by rw [HE.out]; exact HK2.out rfl h0)
         have HB9 := Lib.hid (HB0.out.trans (HB2.out.mono HB0.out.size))
         clear HE HB2 HK1 HK2 HK3 HB0
         go_upto_region 15 with fail
         refine wl <| gz1 (.int .i64 12) <| wn ?_
         simp only [pu]
         go_wp2_with fail
         go_ret
         rw [HE2.out]
         exact ⟨rfl, HB9.out⟩
        ·skip
         refine wl <| gz1 (.pointer (some ⟨g4, 1, none⟩)) <| gzl rfl ⟨g4, 1, none⟩ (.int .u64 y.2) (hbx.load (i := 1) rfl (by kernel_rfl)) <| gzb (eql_u0 rfl y.2 (decide_eq_false h0)) <| wn ?_
         simp only [pu]
         have HK9 := Lib.hid (HK3.out rfl h0)
         clear HK1 HK2 HK3 hbx
         go_upto_region 16 with fail
         refine wl <| gzv (.int .i64 (j + 1 : Nat)) (add_one rfl j (by omega) (by kernel_rfl) _) <| gz1 (.int .i64 (j + 1 : Nat)) <| wn ?_
         simp only [pu]
         go_wp2_with fail
         go_roundg (gk - 1)
         case measure => have := HG.out; omega
         case rel => exact ⟨j + 1, rfl, HG.out.2.2, HK9, HB2, HG.out.1⟩
      ·have HD : Hid (decide ((j : Int) < (n : Int)) = false) := Lib.hid dF
       have HE2 : Hid (r = 0) := Lib.hid (by rw [HE.out]; exact HK.out.done (by rw [HN.out]; omega))
       have HB9 := Lib.hid (HB0.out.trans (HB.out.mono HB0.out.size))
       clear HE HB HK HB0 hg
       go_upto_region 10 with fail
       refine wl <| gzw (.bool false) (lss_n rfl j n HD.out) <| wn ?_
       simp only [pu]
       go_upto_region 17 with fail
       refine wl <| gz1 (.int .i64 0) <| wn ?_
       simp only [pu]
       go_wp2_with fail
       go_ret
       rw [HE2.out]
       exact ⟨rfl, HB9.out⟩
end Go.Proofs.YtglglhcnofbagaaGreat
namespace Go.Proofs.YtglglhcnofbagaaGreat
attribute [local irreducible] wpList wpQuiet
open Go.RowKit
set_option linter.unusedSimpArgs false
set_option linter.unusedVariables false

theorem build_fd (x : Fld) (b : Option Addr) (d : Nat) (V : World) : (Instr.buildSlice 86 1 #[(0, .agg (fdA x b d))]).run Tryz.prog V = .ok (.slice (some ⟨V.heap.size, 0, none⟩) 1 1) (V.alloc (.cells (fdA x b d) 91)) := by
 obtain ⟨i0, hi, hz0, hz1, hz2⟩ := info_parts info25
 refine run_buildSlice V 86 91 1 _ (fdA x b d) i0 _ Tryz.underlying86 hi hz0 (by rw [hz1]; omega) (by rw [hz1]; omega) ?_
 rw [hz1]
 kernel_rfl
end Go.Proofs.YtglglhcnofbagaaGreat
namespace Go.Proofs.YtglglhcnofbagaaGreat
set_option maxRecDepth 100000
open Go.RowKit

theorem RowB.fs {w : World} {B : Nat} {v : Value} {ps : List (Fld × Value)} (h : RowB w B v ps) : ∃ a c, v = .slice a ps.length c ∧ ps.length ≤ c ∧ Fs w a ps := by
  obtain ⟨a, c, rfl, hc⟩ := h.form
  refine ⟨a, c, rfl, hc, fun i p hi => ?_⟩
  have hlt : i < ps.length := (List.getElem?_eq_some_iff.1 hi).1
  obtain ⟨g, rfl, hg, hgl⟩ := own_at h.1 (by omega)
  obtain ⟨ba, bc, hb, hs, -⟩ := (h.2 p (List.mem_of_getElem? hi)).sl
  refine ⟨g, 0, ba, bc, rfl, hb, hs, ?_, ?_, ?_, ?_⟩
  · rw [h.1.cellAt _ (by omega), show 0 + i * 4 = i * 4 + 0 by omega, row4_get ps i 0 p hi (by omega)]
    rfl
  · rw [h.1.cellAt _ (by omega), show 0 + i * 4 + 1 = i * 4 + 1 by omega, row4_get ps i 1 p hi (by omega)]
    rfl
  · rw [h.1.cellAt _ (by omega), show 0 + i * 4 + 2 = i * 4 + 2 by omega, row4_get ps i 2 p hi (by omega)]
    rfl
  · rw [h.1.cellAt _ (by omega), show 0 + i * 4 + 3 = i * 4 + 3 by omega, row4_get ps i 3 p hi (by omega)]
    simp only [cellsOf, List.getElem?_cons_succ, List.getElem?_cons_zero, hb]
theorem Fs.below {w w' : World} {a : Option Addr} {ps : List (Fld × Value)} (h : Fs w a ps) (hb : Below w.heap.size w w') : Fs w' a ps := by
  intro i p hi
  obtain ⟨b, off, ba, bc, h1, h2, h3, h4⟩ := h i p hi
  exact ⟨b, off, ba, bc, h1, h2, sl_below h3 hb, h4.below hb⟩

def f1 : Fld := ⟨1, 0, 300, []⟩
def f2 : Fld := ⟨2, 2, 0, [97, 98]⟩
theorem vf1 : Vf f1 := ⟨⟨by decide, by decide, .inl ⟨rfl, rfl⟩⟩, ⟨by decide, by decide⟩, by simp [f1], by simp [f1]⟩
theorem vf2 : Vf f2 := ⟨⟨by decide, by decide, .inr ⟨rfl, rfl⟩⟩, ⟨by decide, by decide⟩, by simp [f2], by simp [f2]⟩
theorem e1 : encI 1 0 300 [] = [8, 172, 2] := by decide +kernel
theorem e2 : [8, 172, 2] ++ encI 2 2 0 [97, 98] = [8, 172, 2, 18, 2, 97, 98] := by decide +kernel
theorem r1 : flds [8, 172, 2, 18, 2, 97, 98] = ([f1, f2], 0, 0) := by
  have h := flds_enc [f1, f2] 8 [] 0 (by intro x hx; simp at hx; rcases hx with rfl | rfl; exact vf1; exact vf2) (by simp) (by decide +kernel)
  have he : [f1, f2].flatMap encF = [8, 172, 2, 18, 2, 97, 98] := by decide +kernel
  rw [he] at h
  exact h
def f3 : Fld := ⟨1, 0, 1, []⟩
theorem vf3 : Vf f3 := ⟨⟨by decide, by decide, .inl ⟨rfl, rfl⟩⟩, ⟨by decide, by decide⟩, by simp [f3], by simp [f3]⟩
theorem r2 : flds [8, 1, 18, 2, 97] = ([], 2, 5) := by
  have he : encF f3 = [8, 1] := by decide +kernel
  have h1 := one_enc f3 vf3 [18, 2, 97]
  rw [he] at h1
  have h2 : onef [18, 2, 97] = (zeroF, 0, 5) := one_short (t := 18) (n := 2) (h := 1) (k := 1) (by decide +kernel) (by unfold goodT; omega) (by decide +kernel) (by omega) (by decide)
  have h3 : flds [8, 1, 18, 2, 97] = fldsG 5 ([] ++ [f3]) (0 + 2) ([8, 1, 18, 2, 97].drop 2) := flds_next (by decide) (by decide) h1
  rw [h3]
  exact flds_err (by decide) (by decide) h2 (by omega)
theorem z2 : szB 2 = 4 := by decide +kernel

end Go.Proofs.YtglglhcnofbagaaGreat
namespace Go.Proofs.YtglglhcnofbagaaGreat
attribute [local irreducible] wpList wpQuiet
open Go.RowKit
set_option linter.unusedSimpArgs false
set_option linter.unusedVariables false

/-- A field's bytes, apart from a row. -/
def Apt (w : World) (B : Nat) (v : Value) (p : Fld × Value) : Prop := ∃ a c, p.2 = .slice a p.1.bytes.length c ∧ Sl w a c p.1.bytes ∧ ∀ x, a = some x → B ≤ x.block ∧ x.block < w.heap.size ∧ v.ownBlock ≠ some x.block
def RowS (w : World) (B : Nat) (v : Value) (ps : List (Fld × Value)) : Prop := w.ownsRow B 91 4 v ps.length (row4 ps) ∧ ∀ p, p ∈ ps → Apt w B v p
theorem RowS.nil (w : World) (B : Nat) : RowS w B (.slice none 0 0) [] := ⟨World.ownsRow_nil _ _ _ _, fun p h => by simp at h⟩
theorem Apt.below {w w' : World} {B : Nat} {v : Value} {p : Fld × Value} (h : Apt w B v p) (hb : Below w.heap.size w w') : Apt w' B v p := by
 obtain ⟨a, c, h1, h2, h3⟩ := h
 exact ⟨a, c, h1, sl_below h2 hb, fun x hx => ⟨(h3 x hx).1, Nat.lt_of_lt_of_le (h3 x hx).2.1 hb.size, (h3 x hx).2.2⟩⟩
theorem RowS.below {w w' : World} {B : Nat} {v : Value} {ps : List (Fld × Value)} (h : RowS w B v ps) (hb : Below w.heap.size w w') : RowS w' B v ps := ⟨own_below h.1 hb, fun p hp => (h.2 p hp).below hb⟩
theorem RowS.form {w : World} {B : Nat} {v : Value} {ps : List (Fld × Value)} (h : RowS w B v ps) : ∃ a c, v = .slice a ps.length c ∧ ps.length ≤ c := by
 rcases h.1.2 with ⟨rfl, h0⟩ | ⟨g, cap, cur, rfl, _, _, hcap, _⟩
 ·exact ⟨none, 0, by rw [h0], by omega⟩
 ·exact ⟨_, cap, rfl, hcap⟩
theorem RowS.fs {w : World} {B : Nat} {v : Value} {ps : List (Fld × Value)} (h : RowS w B v ps) : ∃ a c, v = .slice a ps.length c ∧ ps.length ≤ c ∧ Fs w a ps := by
 obtain ⟨a, c, rfl, hc⟩ := h.form
 refine ⟨a, c, rfl, hc, fun i p hi => ?_⟩
 have hlt : i < ps.length := (List.getElem?_eq_some_iff.1 hi).1
 obtain ⟨g, rfl, hg, hgl⟩ := own_at h.1 (by omega)
 obtain ⟨ba, bc, hb, hs, -⟩ := h.2 p (List.mem_of_getElem? hi)
 refine ⟨g, 0, ba, bc, rfl, hb, hs, ?_, ?_, ?_, ?_⟩
 ·rw [h.1.cellAt _ (by omega), show 0 + i * 4 = i * 4 + 0 by omega, row4_get ps i 0 p hi (by omega)]
  rfl
 ·rw [h.1.cellAt _ (by omega), show 0 + i * 4 + 1 = i * 4 + 1 by omega, row4_get ps i 1 p hi (by omega)]
  rfl
 ·rw [h.1.cellAt _ (by omega), show 0 + i * 4 + 2 = i * 4 + 2 by omega, row4_get ps i 2 p hi (by omega)]
  rfl
 ·rw [h.1.cellAt _ (by omega), show 0 + i * 4 + 3 = i * 4 + 3 by omega, row4_get ps i 3 p hi (by omega)]
  simp only [cellsOf, List.getElem?_cons_succ, List.getElem?_cons_zero, hb]
theorem Apt.but {w w' : World} {B g : Nat} {v : Value} {p : Fld × Value} (h : Apt w B v p) (hb : But g w w') (hg : g < B) : Apt w' B v p := by
 obtain ⟨a, c, h1, h2, h3⟩ := h
 refine ⟨a, c, h1, ?_, fun x hx => ⟨(h3 x hx).1, Nat.lt_of_lt_of_le (h3 x hx).2.1 hb.1.size, (h3 x hx).2.2⟩⟩
 rcases h2 with h2 | ⟨x, rfl, hx⟩
 ·exact .inl h2
 ·refine .inr ⟨x, rfl, fun k hk => ?_⟩
  obtain ⟨b, off, rfl, hc⟩ := hx k hk
  have q := (h3 _ rfl).1
  exact ⟨b, off, rfl, (World.cell?_of_block (a := ⟨b, off + k, none⟩) (hb.2 b (World.block_lt_of_cell? w _ hc) (by have : B ≤ b := q; omega))).trans hc⟩
theorem RowS.but {w w' : World} {B g : Nat} {v : Value} {ps : List (Fld × Value)} (h : RowS w B v ps) (hb : But g w w') (hg : g < B) : RowS w' B v ps := ⟨own_but h.1 hb hg, fun p hp => (h.2 p hp).but hb hg⟩
theorem Apt.grown {w w' : World} {B : Nat} {v v' : Value} {p : Fld × Value} (h : Apt w B v p) (hg : w.grownBy w' v.ownBlock) (hat : v'.ownBlock = v.ownBlock ∨ v'.ownBlock = some w.heap.size) : Apt w' B v' p := by
 obtain ⟨a, c, h1, h2, h3⟩ := h
 refine ⟨a, c, h1, ?_, fun x hx => ⟨(h3 x hx).1, Nat.lt_of_lt_of_le (h3 x hx).2.1 hg.size, fun e => ?_⟩⟩
 ·rcases h2 with h2 | ⟨x, rfl, hx⟩
  ·exact .inl h2
  ·refine .inr ⟨x, rfl, fun k hk => ?_⟩
   obtain ⟨b, off, rfl, hc⟩ := hx k hk
   exact ⟨b, off, rfl, hg.cell hc fun e => (h3 _ rfl).2.2 e.symm⟩
 ·rcases hat with h4 | h4
  ·exact (h3 x hx).2.2 (h4.symm.trans e)
  ·have h5 := h4.symm.trans e
   have := (h3 x hx).2.1
   simp only [Option.some.injEq] at h5
   omega
/-- A field is appended. -/
theorem grow_s {w : World} {B : Nat} {v : Value} {ps : List (Fld × Value)} (h : RowS w B v ps) (hB : B ≤ w.heap.size) (x : Fld) (b : Option Addr) (d : Nat) (hx : Apt w B v (x, .slice b x.bytes.length d)) (hl : ps.length ≤ 100000) :
  ∃ v2 V2, (Builtin.append_ #[86, 86] 86 #[v, .slice (some ⟨w.heap.size, 0, none⟩) 1 1]).run Tryz.prog (w.alloc (.cells (fdA x b d) 91)) = .ok v2 V2 ∧ RowS V2 B v2 (ps ++ [(x, .slice b x.bytes.length d)]) ∧ Below B w V2 := by
 have hba : Below w.heap.size w (w.alloc (.cells (fdA x b d) 91)) := (Below.refl _ w).alloc (Nat.le_refl _) _
 have hO := own_below h.1 hba
 have hsz : (w.alloc (.cells (fdA x b d) 91)).heap.size = w.heap.size + 1 := by simp
 obtain ⟨i0, hi, hz0, hz1, hz2⟩ := info_parts info25
 obtain ⟨v2, V2, hr, hO2, hg, -, hat⟩ := run_append_own_at (P := Tryz.prog) (w.alloc (.cells (fdA x b d) 91)) B 86 86 91 i0 _ 4 48 (by kernel_rfl) hi hz0 hz1 hz2 (by kernel_rfl) (by omega) v ps.length (row4 ps) hO ⟨w.heap.size, 0, none⟩ 1 1 (cellsOf (x, .slice b x.bytes.length d)) rfl (fun j u hu => by
  rw [Go.WideShapes.add_plain, cell_of_row _ w.heap.size (0 + j) _ 91 (0, 0) (heap_alloc_last w _), Nat.zero_add]
  simpa [cellsOf] using hu) (fun u hu => by
  simp only [cellsOf, List.mem_cons, List.not_mem_nil, or_false] at hu
  rcases hu with rfl | rfl | rfl | rfl <;> rfl) (by unfold maxLen; omega) (by omega) (by omega)
 refine ⟨v2, V2, hr, ⟨by rw [row4_snoc, List.length_append]; exact hO2, fun p hp => ?_⟩, (hba.mono hB).trans ((Below.refl _ _).grown hg (by omega) fun j hj => (hO.lt j hj).1)⟩
 rcases List.mem_append.1 hp with hp | hp
 ·exact ((h.2 p hp).below hba).grown hg hat
 ·obtain rfl : p = (x, .slice b x.bytes.length d) := by simpa using hp
  exact (hx.below hba).grown hg hat
def FldS (w : World) (B : Nat) (ps : List (Fld × Value)) (X : List Fld) (e : Ending) (w' : World) : Prop := ∃ v qs, e = .returned v ∧ qs.map Prod.fst = ps.map Prod.fst ++ X ∧ RowS w' B v qs ∧ Below B w w'
theorem Apt.non (w : World) (B : Nat) (v : Value) (x : Fld) (h : x.bytes = []) : Apt w B v (x, .slice none x.bytes.length 0) := ⟨none, 0, rfl, .inl ⟨rfl, rfl, h⟩, fun y hy => by cases hy⟩
set_option maxRecDepth 100000 in
set_option maxHeartbeats 8000000 in
theorem ref_number2 (v : Value) (ps : List (Fld × Value)) (B : Nat) (k val : Int) (w : World) (h : RowS w B v ps) (hB : B ≤ w.heap.size) (hl : ps.length ≤ 100000) :
  Calls Tryz.prog 43 #[v, .int .i64 k, .int .u64 val] w (FldS w B ps (if val = 0 then [] else [⟨k, 0, val, []⟩])) := by
 by_cases h0 : val = 0
 ·rw [if_pos h0]
  have HE := Lib.hid (⟨v, ps, rfl, by simp, h, Below.refl _ _⟩ : FldS w B ps [] (.returned v) w)
  clear h
  go_enter Tryz.func43, Tryz.ntmps43
  go_upto_region 1 with fail
  refine wl <| gz1 (.int .u64 val) <| gzb (eql_u0 rfl val (decide_eq_true h0)) <| wn ?_
  simp only [pu]
  go_upto_region 2 with fail
  refine wl <| gz2 (v) (v) <| wn ?_
  simp only [pu]
  go_wp2_with fail
  go_ret
  exact HE.out
 ·rw [if_neg h0]
  obtain ⟨v2, V2, hap, hr2, hb2⟩ := grow_s h hB ⟨k, 0, val, []⟩ none 0 (Apt.non w B v _ rfl) hl
  have HE := Lib.hid (⟨v2, _, rfl, by simp, hr2, hb2⟩ : FldS w B ps [⟨k, 0, val, []⟩] (.returned v2) V2)
  clear h hr2 hb2
  go_enter Tryz.func43, Tryz.ntmps43
  go_upto_region 1 with fail
  refine wl <| gz1 (.int .u64 val) <| gzb (eql_u0 rfl val (decide_eq_false h0)) <| wn ?_
  simp only [pu]
  go_upto_region 3 with fail
  refine wl <| gz4 (v) (.int .i64 k) (.int .u64 val) (.agg (fdA (⟨k, 0, val, []⟩ : Fld) none 0)) ?_
  simp only [pu]
  refine gw_build (by kernel_rfl) (some 14) rfl 86 1 #[(0, .tmp 13)] rfl #[(0, .agg (fdA (⟨k, 0, val, []⟩ : Fld) none 0))] (by kernel_rfl) (.slice (some ⟨w.heap.size, 0, none⟩) 1 1) _ (build_fd (⟨k, 0, val, []⟩ : Fld) none 0 w) ?_
  simp only [pu]
  refine append_step rfl (some 15) rfl 86 rfl (.tmp 10) (.tmp 14) 86 rfl (v) (.slice (some ⟨w.heap.size, 0, none⟩) 1 1) (v2) V2 (by kernel_rfl) (by kernel_rfl) hap ?_
  simp only [pu]
  refine gz1 (v2) <| wn ?_
  simp only [pu]
  clear hap
  go_wp2_with fail
  go_ret
  exact HE.out
theorem eql_s {ρ : Operand → Value} {o : Oper} {x y : Operand} (ho : o.op = .binOp .eql 9 x y 9) (a b : ByteArray) {t : Bool} (ht : (a == b) = t) (hx : ρ x = .string a) (hy : ρ y = .string b) (w : World) : (execOp ρ o).run Tryz.prog w = .ok (.value (.bool t)) w := by
 have e : (a.toList == b.toList) = t := by rw [← beq_toListBytes]; exact ht
 unfold execOp
 simp only [ho, hx, hy]
 go_simp
theorem mt_true {s : ByteArray} (h : s.size = 0) : (s == (⟨#[]⟩ : ByteArray)) = true := by
 have e : s = ⟨#[]⟩ := ByteArray.ext (Array.eq_empty_of_size_eq_zero h)
 subst e
 rfl
theorem mt_false {s : ByteArray} (h : s.size ≠ 0) : (s == (⟨#[]⟩ : ByteArray)) = false := by
 rw [Bool.eq_false_iff]
 intro e
 rw [beq_toListBytes] at e
 have e2 := eq_of_beq e
 rw [ByteArray.toList_eq, ByteArray.toList_eq] at e2
 have e3 := congrArg List.length e2
 exact h (by simpa using e3)
theorem conv_s {ρ : Operand → Value} {o : Oper} {x : Operand} (ho : o.op = .convert 9 26 x) (s : ByteArray) (hx : ρ x = .string s) (w : World) : (execOp ρ o).run Tryz.prog w = .ok (.value (.slice (some ⟨w.heap.size, 0, none⟩) s.size (grownCap w s.size 0 5))) (Lib.bytesWorld w 5 s) := by
 have h := Lib.run_convert_string_bytes (P := Tryz.prog) w 9 26 5 s Tryz.underlying9 Tryz.underlying26 Tryz.underlying5
 unfold execOp
 simp only [ho, hx, Sem.run_bind, h]
 rfl
/-- What the conversion leaves. -/
theorem conv_world (w : World) (s : ByteArray) (c : Nat) : Below w.heap.size w (Lib.bytesWorld w 5 s) ∧ Sl (Lib.bytesWorld w 5 s) (some ⟨w.heap.size, 0, none⟩) c (nums s) ∧ (Lib.bytesWorld w 5 s).heap.size = w.heap.size + 1 := by
 refine ⟨⟨rfl, rfl, rfl, by rw [Lib.bytesWorld_size]; omega, fun k hk => Lib.bytesWorld_at_old w _ s k hk⟩, .inr ⟨_, rfl, fun k hk => ⟨w.heap.size, 0, rfl, ?_⟩⟩, Lib.bytesWorld_size w _ s⟩
 rw [nums_len] at hk
 rw [Nat.zero_add, Lib.bytesWorld_cell w _ s k hk]
 unfold nums
 simp [List.getD_eq_getElem?_getD, List.getElem?_map]
 cases h : s.data[k]? with
 | none =>
  rw [Array.getElem?_eq_none_iff] at h
  exact absurd hk (by show ¬ k < s.data.size; omega)
 | some u => simp
set_option maxRecDepth 100000 in
set_option maxHeartbeats 8000000 in
theorem ref_text (v : Value) (ps : List (Fld × Value)) (B : Nat) (k : Int) (s : ByteArray) (w : World) (h : RowS w B v ps) (hB : B ≤ w.heap.size) (hl : ps.length ≤ 100000) :
  Calls Tryz.prog 42 #[v, .int .i64 k, .string s] w (FldS w B ps (if s.size = 0 then [] else [⟨k, 2, 0, nums s⟩])) := by
 by_cases h0 : s.size = 0
 ·rw [if_pos h0]
  have HE := Lib.hid (⟨v, ps, rfl, by simp, h, Below.refl _ _⟩ : FldS w B ps [] (.returned v) w)
  have HQ := mt_true h0
  clear h
  go_enter Tryz.func42, Tryz.ntmps42
  go_upto_region 1 with fail
  refine wl <| gz1 (.string s) <| gzw (.bool true) (eql_s rfl s ⟨#[]⟩ HQ) <| wn ?_
  simp only [pu]
  go_upto_region 2 with fail
  refine wl <| gz2 (v) (v) <| wn ?_
  simp only [pu]
  go_wp2_with fail
  go_ret
  exact HE.out
 ·rw [if_neg h0]
  obtain ⟨hbw, hsl, hsz⟩ := conv_world w s (grownCap w s.size 0 5)
  have HQ := mt_false h0
  have CV := fun (ρ : Operand → Value) (o : Oper) (x : Operand) ho hx => conv_s (ρ := ρ) (o := o) (x := x) ho s hx w
  generalize grownCap w s.size 0 5 = d at *
  generalize Lib.bytesWorld w 5 s = W at *
  obtain ⟨q, hq⟩ : ∃ q, w.heap.size = q := ⟨_, rfl⟩
  have hap0 : Apt W B v ((⟨k, 2, 0, nums s⟩ : Fld), .slice (some ⟨q, 0, none⟩) (nums s).length d) := ⟨_, _, rfl, by rw [← hq]; exact hsl, fun x hx => by
   cases hx
   refine ⟨by show B ≤ q; omega, by show q < _; omega, fun e => ?_⟩
   have h4 : q < w.heap.size := (h.1.lt _ e).2
   omega⟩
  obtain ⟨v2, V2, hap, hr2, hb2⟩ := grow_s (h.below hbw) (by omega) ⟨k, 2, 0, nums s⟩ (some ⟨q, 0, none⟩) d hap0 hl
  have HE := Lib.hid (⟨v2, _, rfl, by simp, hr2, (hbw.mono hB).trans hb2⟩ : FldS w B ps [⟨k, 2, 0, nums s⟩] (.returned v2) V2)
  rw [hq] at CV
  rw [← nums_len s] at CV
  clear h hr2 hb2 hap0 hsl hbw hsz hq
  generalize nums s = L at *
  go_enter Tryz.func42, Tryz.ntmps42
  go_upto_region 1 with fail
  refine wl <| gz1 (.string s) <| gzw (.bool false) (eql_s rfl s ⟨#[]⟩ HQ) <| wn ?_
  simp only [pu]
  go_upto_region 3 with fail
  refine wl <| gz3 (v) (.int .i64 k) (.string s) ?_
  simp only [pu]
  refine gw_new (by kernel_rfl) (some 13) rfl (.slice (some ⟨q, 0, none⟩) L.length d) W (CV _ _ _ rfl (by kernel_rfl)) ?_
  simp only [pu]
  refine gz1 (.agg (fdA (⟨k, 2, 0, L⟩ : Fld) (some ⟨q, 0, none⟩) d)) ?_
  simp only [pu]
  refine gw_build (by kernel_rfl) (some 15) rfl 86 1 #[(0, .tmp 14)] rfl #[(0, .agg (fdA (⟨k, 2, 0, L⟩ : Fld) (some ⟨q, 0, none⟩) d))] (by kernel_rfl) (.slice (some ⟨W.heap.size, 0, none⟩) 1 1) _ (build_fd (⟨k, 2, 0, L⟩ : Fld) (some ⟨q, 0, none⟩) d W) ?_
  simp only [pu]
  refine append_step rfl (some 16) rfl 86 rfl (.tmp 10) (.tmp 15) 86 rfl (v) (.slice (some ⟨W.heap.size, 0, none⟩) 1 1) (v2) V2 (by kernel_rfl) (by kernel_rfl) hap ?_
  simp only [pu]
  refine gz1 (v2) <| wn ?_
  simp only [pu]
  clear hap CV
  go_wp2_with fail
  go_ret
  exact HE.out
end Go.Proofs.YtglglhcnofbagaaGreat
