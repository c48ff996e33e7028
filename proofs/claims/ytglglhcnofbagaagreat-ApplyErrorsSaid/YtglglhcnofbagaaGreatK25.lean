/-
  The reference's fault: contract. The reference's Tx: contract.
-/
import Derived.Test.YtglglhcnofbagaaGreatK24
namespace Go.Proofs.YtglglhcnofbagaaGreat.Lg
attribute [local irreducible] wpList wpQuiet
set_option maxRecDepth 100000
open Mo (usedV prioV mulB mulV)
open Go.RowKit
set_option linter.unusedSimpArgs false
set_option linter.unusedVariables false

section
variable {ρ : Operand → Value} {o : Oper} {x y : Operand}
theorem neq_u6 (ho : o.op = .binOp .neq 23 x y 23) (a b : Int) {t : Bool} (ht : decide (a = b) = t) (hx : ρ x = .int .u64 a) (hy : ρ y = .int .u64 b) (w : World) : (execOp ρ o).run Tryz.prog w = .ok (.value (.bool (!t))) w := by
 have e : (a != b) = !t := by rw [← ht]; rfl
 unfold execOp
 simp only [ho, hx, hy]
 go_simp
theorem eql_u6 (ho : o.op = .binOp .eql 23 x y 23) (a b : Int) {t : Bool} (ht : decide (a = b) = t) (hx : ρ x = .int .u64 a) (hy : ρ y = .int .u64 b) (w : World) : (execOp ρ o).run Tryz.prog w = .ok (.value (.bool t)) w := by
 have e : (a == b) = t := ht
 unfold execOp
 simp only [ho, hx, hy]
 go_simp
theorem lss_u6 (ho : o.op = .binOp .lss 23 x y 23) (a b : Int) {t : Bool} (ht : decide (a < b) = t) (hx : ρ x = .int .u64 a) (hy : ρ y = .int .u64 b) (w : World) : (execOp ρ o).run Tryz.prog w = .ok (.value (.bool t)) w := by
 rw [← ht]
 unfold execOp
 simp only [ho, hx, hy]
 go_simp
end
/-- What is asked of a ledger that is valid and a transaction that was read. -/
structure FaQ (A : List Ac) (c price : Int) (t : Txd) : Prop where
 v : valE A c = 0
 w : AcW A
 cw : W64 c
 p : W64 price
 sq : W64 t.sq
 gas : W64 t.gas
 f : W64 t.fee
 a : ∀ x, x ∈ t.tr → W64 x.2
 m : t.tr.length ≤ 16
theorem FaQ.dn {A : List Ac} {c price : Int} {t : Txd} (h : FaQ A c price t) (h1 : (getX A t.snd).2 = true) (h2 : (getX A t.snd).1.2.2 = t.sq) (h3 : ¬ t.sq = 18446744073709551615) (h4 : cosB t = true) (h5 : ¬ (getX A t.snd).1.2.1 < cosV t) : DnQ A c t := by
 obtain ⟨v1, v2, v3, v4⟩ := valE_ok h.v
 have v5 : tot (c :: bals A) < 18446744073709551616 := of_decide_eq_true v4
 rw [tot_cons] at v5
 have := h.sq.2
 exact ⟨h.w, h.cw, v1, v5, h1, by omega, h4, by omega, h.f, h.a, h.m⟩
set_option maxRecDepth 100000 in
set_option maxHeartbeats 8000000 in
theorem ref_fault (A : List Ac) (c price size : Int) (t : Txd) (la ta : Option Addr) (lk tk : Nat) (w : World) (hL : Cs w la (acc A)) (hlk : A.length ≤ lk) (hT : Cs w ta (tfc t.tr)) (hQ : FaQ A c price t) :
  Calls Tryz.prog 32 #[.agg (lgA la A.length lk c), .int .u64 price, .agg (txA t ta tk), .int .i64 size] w fun e w' => e = .returned (.int .i64 (faultX A price t size)) ∧ Below w.heap.size w w' := by
 obtain ⟨hb0, hX4, hX6⟩ := two_boxes w (lgA la A.length lk c) (txA t ta tk) 25 46
 have hA := hL.below hb0
 have hT0 := hT.below hb0
 have HQ := Lib.hid hQ
 have hn := (valE_ok hQ.v).1
 have HNL : Hid (A.length ≤ 256 ∧ t.tr.length ≤ 16) := Lib.hid ⟨hn, hQ.m⟩
 have HDN := Lib.hid (fun h1 h2 h3 h4 h5 => hQ.dn h1 h2 h3 h4 h5)
 obtain ⟨f8, h8⟩ : ∃ v : Int, v = (if 256 < (doneL A t).length then 3 else 0) := ⟨_, rfl⟩
 obtain ⟨f7, h7⟩ : ∃ v : Int, v = (if (getX A t.snd).1.2.1 < cosV t then 17 else f8) := ⟨_, rfl⟩
 obtain ⟨f6, h6⟩ : ∃ v : Int, v = (if cosB t = false then 6 else f7) := ⟨_, rfl⟩
 obtain ⟨f5, h5⟩ : ∃ v : Int, v = (if t.fee < mulV t.gas price then 16 else f6) := ⟨_, rfl⟩
 obtain ⟨f4, h4⟩ : ∃ v : Int, v = (if mulB t.gas price = false then 6 else f5) := ⟨_, rfl⟩
 obtain ⟨f3, h3⟩ : ∃ v : Int, v = (if t.gas < usedV size t.tr.length then 15 else f4) := ⟨_, rfl⟩
 obtain ⟨f2, h2⟩ : ∃ v : Int, v = (if t.sq = 18446744073709551615 then 6 else f3) := ⟨_, rfl⟩
 obtain ⟨f1, h1⟩ : ∃ v : Int, v = (if (getX A t.snd).1.2.2 ≠ t.sq then 14 else f2) := ⟨_, rfl⟩
 have h0 : faultX A price t size = (if (getX A t.snd).2 = false then 13 else f1) := by rw [h1, h2, h3, h4, h5, h6, h7, h8]; rfl
 obtain ⟨f0, hf0⟩ : ∃ v : Int, v = faultX A price t size := ⟨_, rfl⟩
 rw [← hf0] at h0 ⊢
 have CC := Lib.hid (fun V (h : Cs V ta (tfc t.tr)) => ref_cost t ta tk V h (by have := hQ.m; omega) hQ.f hQ.a)
 have CU := fun V => Mo.ref_used size t.tr.length V
 have CN := fun V => Mo.ref_need t.gas price V hQ.gas hQ.p
 obtain ⟨y, hy⟩ : ∃ y, (getX A t.snd).1 = y := ⟨_, rfl⟩
 obtain ⟨gb, hgb⟩ : ∃ gb, (getX A t.snd).2 = gb := ⟨_, rfl⟩
 rw [hy] at h1 h7
 rw [hgb] at h0
 have HY := Lib.hid hy
 have HGB := Lib.hid hgb
 generalize usedV size t.tr.length = us at *
 generalize mulV t.gas price = mv at *
 generalize mulB t.gas price = mb at *
 have H0 := Lib.hid h0; have H1 := Lib.hid h1; have H2 := Lib.hid h2; have H3 := Lib.hid h3; have H4 := Lib.hid h4; have H5 := Lib.hid h5; have H6 := Lib.hid h6; have H7 := Lib.hid h7; have H8 := Lib.hid h8
 clear h0 h1 h2 h3 h4 h5 h6 h7 h8 hf0 hL hT hQ hn
 go_enter Tryz.func32, Tryz.ntmps32
 go_upto_region 1 with fail
 change Code.wp _ _ _ _ ((w.alloc (.cells (lgA la A.length lk c) 25)).alloc (.cells (txA t ta tk) 46))
 generalize (w.alloc (.cells (lgA la A.length lk c) 25)).alloc (.cells (txA t ta tk) 46) = W at *
 obtain ⟨g4, hg4⟩ : ∃ g4, w.heap.size = g4 := ⟨_, rfl⟩
 obtain ⟨g6, hg6⟩ : ∃ g6, g4 + 1 = g6 := ⟨_, rfl⟩
 have HB0 := Lib.hid hb0
 rw [show w.heap.size + 1 = g6 by omega] at hX6
 rw [hg4] at hX4
 simp only [hg4]
 simp only [hg6]
 have HX4 := Lib.hid hX4
 have HX6 := Lib.hid hX6
 have HA := Lib.hid hA
 have HT := Lib.hid hT0
 have CG := ref_get la lk A c t.snd W hA (by have := HNL.out; omega)
 rw [hy, hgb] at CG
 clear hb0 hX4 hX6 hA hT0 hg4 hg6 hy hgb
 refine wl <| gzl rfl ⟨g4, 0, none⟩ (.agg (lgA la A.length lk c)) (load_lg HX4.out) <| gz1 (.pointer (some ⟨g6, 0, none⟩)) <| gzl rfl ⟨g6, 0, none⟩ (.string t.snd) (HX6.out.load (i := 0) rfl (by kernel_rfl)) <| gzc (.tuple #[.agg (acA y), .bool gb]) (fun w' => Below W.heap.size W w') CG (fun W1 hW1 => ?_)
 obtain ⟨V2, hst2, hb2, hbx2⟩ := new_ac W1 y
 simp only [pu]
 refine gz3 (.tuple #[.agg (acA y), .bool gb]) (.agg (acA y)) (.bool gb) ?_
 simp only [pu]
 refine run_to rfl (some 9) rfl (.pointer (some ⟨W1.heap.size, 0, none⟩)) (W1.alloc (.cells (acA zAc) 49)) (by kernel_rfl) ?_
 simp only [pu]
 refine gzs rfl (hst2) <| gz1 (.bool gb) <| wn ?_
 simp only [pu]
 have hb3 := hW1.trans (hb2.mono hW1.size)
 obtain ⟨g9, hg9⟩ : ∃ g9, W1.heap.size = g9 := ⟨_, rfl⟩
 rw [hg9] at hbx2 ⊢
 have HX9 := Lib.hid hbx2
 have HB2 := Lib.hid hb3
 have HX62 := Lib.hid (HX6.out.below HX6.out.lt hb3)
 clear CG hW1 hst2 hb2 hg9 hbx2 hb3
 cases gb
 ·skip
  go_upto_region 2 with fail
  refine wl <| gz3 (.bool false) (.bool true) (.bool true) <| wn ?_
  simp only [pu]
  obtain rfl : f0 = 13 := by rw [H0.out]; rfl
  go_upto_region 3 with fail
  refine wl <| gz1 (.int .i64 13) <| wn ?_
  simp only [pu]
  go_wp2_with fail
  go_ret
  exact ⟨rfl, HB0.out.trans (HB2.out.mono HB0.out.size)⟩
 ·skip
  have E0 := Lib.hid (show f0 = f1 by rw [H0.out]; rfl)
  clear H0
  go_upto_region 2 with fail
  refine wl <| gz3 (.bool true) (.bool false) (.bool false) <| wn ?_
  simp only [pu]
  by_cases hs : y.2.2 = t.sq
  ·skip
   have E1 := Lib.hid (show f1 = f2 by rw [H1.out, if_neg (by simpa using hs)])
   clear H1
   go_upto_region 4 with fail
   refine wl <| gz1 (.pointer (some ⟨g9, 2, none⟩)) <| gzl rfl ⟨g9, 2, none⟩ (.int .u64 y.2.2) (HX9.out.load (i := 2) rfl (by kernel_rfl)) <| gz1 (.pointer (some ⟨g6, 1, none⟩)) <| gzl rfl ⟨g6, 1, none⟩ (.int .u64 t.sq) (HX62.out.load (i := 1) rfl (by kernel_rfl)) <|
    gzb (neq_u6 rfl y.2.2 t.sq (decide_eq_true hs)) <| gz1 (.bool false) <| wn ?_
   simp only [pu]
   by_cases hm : t.sq = 18446744073709551615
   ·skip
    go_upto_region 6 with fail
    refine wl <| gz1 (.pointer (some ⟨g6, 1, none⟩)) <| gzl rfl ⟨g6, 1, none⟩ (.int .u64 t.sq) (HX62.out.load (i := 1) rfl (by kernel_rfl)) <| gzb (eql_u6 rfl t.sq 18446744073709551615 (decide_eq_true hm)) <| gz1 (.bool true) <|
     wpList_nil ?_
    simp only [pu]
    obtain rfl : f0 = 6 := by rw [E0.out, E1.out, H2.out, if_pos hm]
    go_upto_region 7 with fail
    refine wl <| gz1 (.int .i64 6) <| wn ?_
    simp only [pu]
    go_wp2_with fail
    go_ret
    exact ⟨rfl, HB0.out.trans (HB2.out.mono HB0.out.size)⟩
   ·skip
    have E2 := Lib.hid (show f2 = f3 by rw [H2.out, if_neg hm])
    clear H2
    go_upto_region 6 with fail
    refine wl <| gz1 (.pointer (some ⟨g6, 1, none⟩)) <| gzl rfl ⟨g6, 1, none⟩ (.int .u64 t.sq) (HX62.out.load (i := 1) rfl (by kernel_rfl)) <| gzb (eql_u6 rfl t.sq 18446744073709551615 (decide_eq_false hm)) <| gz1 (.bool false) <|
     wpList_nil ?_
    simp only [pu]
    by_cases hga : t.gas < us
    ·skip
     go_upto_region 8 with fail
     have HXd : Hid (Bx V2.drew g6 (txA t ta tk) 46) := Lib.hid HX62.out
     refine wp_region_class (C := fun U => U = V2.drew) (by kernel_rfl) (by kernel_rfl) (rfl) ?_
     refine gy (.pointer (some ⟨g6, 2, none⟩)) <| gyl rfl ⟨g6, 2, none⟩ (.int .u64 t.gas) (fun U hU => by rw [hU]; exact HXd.out.load (i := 2) rfl (by kernel_rfl)) <| gy (.int .i64 size) <| gy (.pointer (some ⟨g6, 5, none⟩)) <|
       gyl rfl ⟨g6, 5, none⟩ (.slice ta t.tr.length tk) (fun U hU => by rw [hU]; exact HXd.out.load (i := 5) rfl (by kernel_rfl)) <| gy (.int .i64 t.tr.length) ?_
     simp only [pu]
     refine gq_call (by kernel_rfl) (some 42) rfl 17 #[.int .i64 size, .int .i64 t.tr.length] (.int .u64 us) (fun U hU => by kernel_rfl) (fun U hU => (CU U).mono fun e w2 q => ⟨q.1, q.2 ▸ hU⟩) ?_
     simp only [pu]
     refine gyv (.bool true) (fun U hU => lss_u6 rfl t.gas us (decide_eq_true hga) (by kernel_rfl) (by kernel_rfl) _) <| gy (.bool true) ?_
     simp only [pu]
     apply wpQuiet_nil
     intro U hU
     have HB2 : Hid (Below W.heap.size W U) := Lib.hid (by rw [hU]; exact HB2.out.drew)
     have HX9 : Hid (Bx U g9 (acA y) 49) := Lib.hid (by rw [hU]; exact HX9.out)
     have HX62 : Hid (Bx U g6 (txA t ta tk) 46) := Lib.hid (by rw [hU]; exact HX62.out)
     clear hU
     obtain rfl : f0 = 15 := by rw [E0.out, E1.out, E2.out, H3.out, if_pos hga]
     go_upto_region 9 with fail
     refine wl <| gz1 (.int .i64 15) <| wn ?_
     simp only [pu]
     go_wp2_with fail
     go_ret
     exact ⟨rfl, HB0.out.trans (HB2.out.mono HB0.out.size)⟩
    ·skip
     have E3 := Lib.hid (show f3 = f4 by rw [H3.out, if_neg hga])
     clear H3
     go_upto_region 8 with fail
     have HXd : Hid (Bx V2.drew g6 (txA t ta tk) 46) := Lib.hid HX62.out
     refine wp_region_class (C := fun U => U = V2.drew) (by kernel_rfl) (by kernel_rfl) (rfl) ?_
     refine gy (.pointer (some ⟨g6, 2, none⟩)) <| gyl rfl ⟨g6, 2, none⟩ (.int .u64 t.gas) (fun U hU => by rw [hU]; exact HXd.out.load (i := 2) rfl (by kernel_rfl)) <| gy (.int .i64 size) <| gy (.pointer (some ⟨g6, 5, none⟩)) <|
       gyl rfl ⟨g6, 5, none⟩ (.slice ta t.tr.length tk) (fun U hU => by rw [hU]; exact HXd.out.load (i := 5) rfl (by kernel_rfl)) <| gy (.int .i64 t.tr.length) ?_
     simp only [pu]
     refine gq_call (by kernel_rfl) (some 42) rfl 17 #[.int .i64 size, .int .i64 t.tr.length] (.int .u64 us) (fun U hU => by kernel_rfl) (fun U hU => (CU U).mono fun e w2 q => ⟨q.1, q.2 ▸ hU⟩) ?_
     simp only [pu]
     refine gyv (.bool false) (fun U hU => lss_u6 rfl t.gas us (decide_eq_false hga) (by kernel_rfl) (by kernel_rfl) _) <| gy (.bool false) ?_
     simp only [pu]
     apply wpQuiet_nil
     intro U hU
     have HB2 : Hid (Below W.heap.size W U) := Lib.hid (by rw [hU]; exact HB2.out.drew)
     have HX9 : Hid (Bx U g9 (acA y) 49) := Lib.hid (by rw [hU]; exact HX9.out)
     have HX62 : Hid (Bx U g6 (txA t ta tk) 46) := Lib.hid (by rw [hU]; exact HX62.out)
     clear hU
     go_upto_region 10 with fail
     refine wl <| gz1 (.pointer (some ⟨g6, 2, none⟩)) <| gzl rfl ⟨g6, 2, none⟩ (.int .u64 t.gas) (HX62.out.load (i := 2) rfl (by kernel_rfl)) <| gz1 (.int .u64 price) <| gzc (.tuple #[.int .u64 mv, .bool mb]) (fun w' => U = w') (CN U) (fun V9 hV9 => ?_)
     subst hV9
     simp only [pu]
     refine gz5 (.tuple #[.int .u64 mv, .bool mb]) (.int .u64 mv) (.bool mb) (.int .u64 mv) (.bool mb) <| wn ?_
     simp only [pu]
     go_upto_region 11 with fail
     refine wl <| gzl rfl ⟨g6, 0, none⟩ (.agg (txA t ta tk)) (load_txb HX62.out) <| gzc (.tuple #[.int .u64 (cosV t), .bool (cosB t)]) (fun w' => Below U.heap.size U w') (CC.out U (HT.out.below HB2.out)) (fun V3 hV3 => ?_)
     simp only [pu]
     refine gz5 (.tuple #[.int .u64 (cosV t), .bool (cosB t)]) (.int .u64 (cosV t)) (.bool (cosB t)) (.int .u64 (cosV t)) (.bool (cosB t)) <| wn ?_
     simp only [pu]
     have HB3 := Lib.hid (HB2.out.trans (hV3.mono HB2.out.size))
     have HX93 := Lib.hid (HX9.out.below HX9.out.lt hV3)
     have HX63 := Lib.hid (HX62.out.below HX62.out.lt hV3)
     clear hV3 CU CN
     cases mb
     ·skip
      go_upto_region 12 with fail
      refine wl <| gz3 (.bool false) (.bool true) (.bool true) <| wn ?_
      simp only [pu]
      obtain rfl : f0 = 6 := by rw [E0.out, E1.out, E2.out, E3.out, H4.out]; rfl
      go_upto_region 13 with fail
      refine wl <| gz1 (.int .i64 6) <| wn ?_
      simp only [pu]
      go_wp2_with fail
      go_ret
      exact ⟨rfl, HB0.out.trans (HB3.out.mono HB0.out.size)⟩
     ·skip
      have E4 := Lib.hid (show f4 = f5 by rw [H4.out]; rfl)
      clear H4
      go_upto_region 12 with fail
      refine wl <| gz3 (.bool true) (.bool false) (.bool false) <| wn ?_
      simp only [pu]
      by_cases hfe : t.fee < mv
      ·skip
       go_upto_region 14 with fail
       refine wl <| gz1 (.pointer (some ⟨g6, 3, none⟩)) <| gzl rfl ⟨g6, 3, none⟩ (.int .u64 t.fee) (HX63.out.load (i := 3) rfl (by kernel_rfl)) <| gz1 (.int .u64 mv) <| gzb (lss_u6 rfl t.fee mv (decide_eq_true hfe)) <| gz1 (.bool true) <|
        wpList_nil ?_
       simp only [pu]
       obtain rfl : f0 = 16 := by rw [E0.out, E1.out, E2.out, E3.out, E4.out, H5.out, if_pos hfe]
       go_upto_region 15 with fail
       refine wl <| gz1 (.int .i64 16) <| wn ?_
       simp only [pu]
       go_wp2_with fail
       go_ret
       exact ⟨rfl, HB0.out.trans (HB3.out.mono HB0.out.size)⟩
      ·skip
       have E5 := Lib.hid (show f5 = f6 by rw [H5.out, if_neg hfe])
       clear H5
       go_upto_region 14 with fail
       refine wl <| gz1 (.pointer (some ⟨g6, 3, none⟩)) <| gzl rfl ⟨g6, 3, none⟩ (.int .u64 t.fee) (HX63.out.load (i := 3) rfl (by kernel_rfl)) <| gz1 (.int .u64 mv) <| gzb (lss_u6 rfl t.fee mv (decide_eq_false hfe)) <|
        gz1 (.bool false) <| wn ?_
       simp only [pu]
       cases hcb : cosB t
       ·skip
        go_upto_region 16 with fail
        refine wl <| gz3 (.bool false) (.bool true) (.bool true) <| wn ?_
        simp only [pu]
        obtain rfl : f0 = 6 := by rw [E0.out, E1.out, E2.out, E3.out, E4.out, E5.out, H6.out, if_pos hcb]
        go_upto_region 17 with fail
        refine wl <| gz1 (.int .i64 6) <| wn ?_
        simp only [pu]
        go_wp2_with fail
        go_ret
        exact ⟨rfl, HB0.out.trans (HB3.out.mono HB0.out.size)⟩
       ·skip
        have E6 := Lib.hid (show f6 = f7 by rw [H6.out, if_neg (by rw [hcb]; decide)])
        clear H6
        go_upto_region 16 with fail
        refine wl <| gz3 (.bool true) (.bool false) (.bool false) <| wn ?_
        simp only [pu]
        by_cases hfu : y.2.1 < cosV t
        ·skip
         go_upto_region 18 with fail
         refine wl <| gz1 (.pointer (some ⟨g9, 1, none⟩)) <| gzl rfl ⟨g9, 1, none⟩ (.int .u64 y.2.1) (HX93.out.load (i := 1) rfl (by kernel_rfl)) <| gz1 (.int .u64 (cosV t)) <| gzb (lss_u6 rfl y.2.1 (cosV t) (decide_eq_true hfu)) <|
          gz1 (.bool true) <| wn ?_
         simp only [pu]
         obtain rfl : f0 = 17 := by rw [E0.out, E1.out, E2.out, E3.out, E4.out, E5.out, E6.out, H7.out, if_pos hfu]
         go_upto_region 19 with fail
         refine wl <| gz1 (.int .i64 17) <| wn ?_
         simp only [pu]
         go_wp2_with fail
         go_ret
         exact ⟨rfl, HB0.out.trans (HB3.out.mono HB0.out.size)⟩
        ·skip
         have E7 := Lib.hid (show f7 = f8 by rw [H7.out, if_neg hfu])
         clear H7
         go_upto_region 18 with fail
         refine wl <| gz1 (.pointer (some ⟨g9, 1, none⟩)) <| gzl rfl ⟨g9, 1, none⟩ (.int .u64 y.2.1) (HX93.out.load (i := 1) rfl (by kernel_rfl)) <| gz1 (.int .u64 (cosV t)) <| gzb (lss_u6 rfl y.2.1 (cosV t) (decide_eq_false hfu)) <|
          gz1 (.bool false) <| wn ?_
         simp only [pu]
         have hdq := HDN.out HGB.out (by rw [HY.out]; exact hs) hm hcb (by rw [HY.out]; exact hfu)
         have CD := ref_done A c t la ta lk tk V3 (HA.out.below HB3.out) hlk (HT.out.below HB3.out) hdq
         have HX43 := Lib.hid (HX4.out.below HX4.out.lt HB3.out)
         have hdl : (doneL A t).length ≤ 300 := by have h1 := hdq.n; have h2 := hdq.m; have h3 := (done_gv hdq).n; omega
         generalize doneL A t = DL at *
         by_cases hli : 256 < DL.length
         ·skip
          go_upto_region 20 with fail
          refine wl <| gzl rfl ⟨g4, 0, none⟩ (.agg (lgA la A.length lk c)) (load_lg HX43.out) <| gzl rfl ⟨g6, 0, none⟩ (.agg (txA t ta tk)) (load_txb HX63.out) <| gz1 (.int .u64 (cosV t)) <|
           gze (fun v w' => (∃ ad kk, v = .agg (lgA ad DL.length kk (c + t.fee))) ∧ Below V3.heap.size V3 w') (CD.mono fun e w' q => by obtain ⟨ad, kk, h1, -, h3⟩ := q; exact ⟨_, h1, ⟨ad, kk, rfl⟩, h3⟩) (fun vv V4 hq => ?_)
          obtain ⟨⟨ad, kk, rfl⟩, hV4⟩ := hq
          simp only [pu]
          refine gz2 (.slice ad DL.length kk) (.int .i64 DL.length) <| gzb (gtr_n rfl DL.length 256 dT) <| wn ?_
          simp only [pu]
          have HB4 := Lib.hid (HB3.out.trans (hV4.mono HB3.out.size))
          clear hV4 CD
          obtain rfl : f0 = 3 := by rw [E0.out, E1.out, E2.out, E3.out, E4.out, E5.out, E6.out, E7.out, H8.out, if_pos hli]
          go_upto_region 21 with fail
          refine wl <| gz1 (.int .i64 3) <| wn ?_
          simp only [pu]
          go_wp2_with fail
          go_ret
          exact ⟨rfl, HB0.out.trans (HB4.out.mono HB0.out.size)⟩
         ·skip
          go_upto_region 20 with fail
          refine wl <| gzl rfl ⟨g4, 0, none⟩ (.agg (lgA la A.length lk c)) (load_lg HX43.out) <| gzl rfl ⟨g6, 0, none⟩ (.agg (txA t ta tk)) (load_txb HX63.out) <| gz1 (.int .u64 (cosV t)) <|
           gze (fun v w' => (∃ ad kk, v = .agg (lgA ad DL.length kk (c + t.fee))) ∧ Below V3.heap.size V3 w') (CD.mono fun e w' q => by obtain ⟨ad, kk, h1, -, h3⟩ := q; exact ⟨_, h1, ⟨ad, kk, rfl⟩, h3⟩) (fun vv V4 hq => ?_)
          obtain ⟨⟨ad, kk, rfl⟩, hV4⟩ := hq
          simp only [pu]
          refine gz2 (.slice ad DL.length kk) (.int .i64 DL.length) <| gzb (gtr_n rfl DL.length 256 dF) <| wn ?_
          simp only [pu]
          have HB4 := Lib.hid (HB3.out.trans (hV4.mono HB3.out.size))
          clear hV4 CD
          obtain rfl : f0 = 0 := by rw [E0.out, E1.out, E2.out, E3.out, E4.out, E5.out, E6.out, E7.out, H8.out, if_neg hli]
          go_upto_region 22 with fail
          refine wl <| gz1 (.int .i64 0) <| wn ?_
          simp only [pu]
          go_wp2_with fail
          go_ret
          exact ⟨rfl, HB0.out.trans (HB4.out.mono HB0.out.size)⟩
  ·skip
   go_upto_region 4 with fail
   refine wl <| gz1 (.pointer (some ⟨g9, 2, none⟩)) <| gzl rfl ⟨g9, 2, none⟩ (.int .u64 y.2.2) (HX9.out.load (i := 2) rfl (by kernel_rfl)) <| gz1 (.pointer (some ⟨g6, 1, none⟩)) <| gzl rfl ⟨g6, 1, none⟩ (.int .u64 t.sq) (HX62.out.load (i := 1) rfl (by kernel_rfl)) <|
    gzb (neq_u6 rfl y.2.2 t.sq (decide_eq_false hs)) <| gz1 (.bool true) <| wn ?_
   simp only [pu]
   obtain rfl : f0 = 14 := by rw [E0.out, H1.out, if_pos hs]
   go_upto_region 5 with fail
   refine wl <| gz1 (.int .i64 14) <| wn ?_
   simp only [pu]
   go_wp2_with fail
   go_ret
   exact ⟨rfl, HB0.out.trans (HB2.out.mono HB0.out.size)⟩
end Go.Proofs.YtglglhcnofbagaaGreat.Lg
namespace Go.Proofs.YtglglhcnofbagaaGreat.Lg
set_option maxRecDepth 100000
open Mo (usedV prioV mulB mulV)
open Go.RowKit
set_option linter.unusedSimpArgs false
set_option linter.unusedVariables false

theorem res_one (r : Res) : (resA r).all (·.oneCell') = true := by simp [Value.oneCell']
theorem store_res {w : World} {g : Nat} {r q : Res} (h : Bx w g (resA r) 39) : (Instr.storeAt 39 (.pointer (some ⟨g, 0, none⟩)) (.agg (resA q))).run Tryz.prog w = .ok () (w.setRow g (resA q)) ∧ Bx (w.setRow g (resA q)) g (resA q) 39 :=
 ⟨run_store_all h rfl (res_one q) (by kernel_rfl), h.set⟩
theorem load_res {w : World} {g k : Nat} {r : Res} (h : Bx w g (resA r) k) : (Instr.loadAt 39 (.pointer (some ⟨g, 0, none⟩))).run Tryz.prog w = .ok (.agg (resA r)) w :=
 run_loadAt_mid w g 0 39 (resA r).toList _ (fun j v hv => by
  rw [cell_of_row w g _ _ _ (0, 0) h]
  simpa using hv) Tryz.underlying39 rfl (by kernel_rfl)
theorem results_2c {fn : Func} {tmps : Array Value} {w : World} {p ty g q ty2 g2 : Nat} {v v2 : Value} (hr : fn.results = #[.cell p ty, .cell q ty2]) (h2 : tmps.getD p undef = .pointer (some ⟨g, 0, none⟩)) (hl : (Instr.loadAt ty (.pointer (some ⟨g, 0, none⟩))).run Tryz.prog w = .ok v w) (h4 : tmps.getD q undef = .pointer (some ⟨g2, 0, none⟩)) (hl2 : (Instr.loadAt ty2 (.pointer (some ⟨g2, 0, none⟩))).run Tryz.prog w = .ok v2 w) : (results fn tmps).run Tryz.prog w = .ok (.tuple #[v, v2]) w := by
 unfold results
 rw [hr]
 have h2' : tmps[p]?.getD undef = .pointer (some ⟨g, 0, none⟩) := by simpa using h2
 have h4' : tmps[q]?.getD undef = .pointer (some ⟨g2, 0, none⟩) := by simpa using h4
 have hl' := hl
 have hl2' := hl2
 simp only [Instr.loadAt, Instr.sureAddr, Sem.run_bind, Sem.run_pure, Result.andThen_ok] at hl' hl2'
 simp [h2', h4', asAddr, hl', hl2', Result.andThen]
/-- What Tx hands back: a ledger that reads, and the result. -/
def TxO (w : World) (la : Option Addr) (A : List Ac) (X : (List Ac × Int) × Res) (e : Ending) (w' : World) : Prop := ∃ ad k, e = .returned (.tuple #[.agg (lgA ad X.1.1.length k X.1.2), .agg (resA X.2)]) ∧ Cs w' ad (acc X.1.1) ∧ X.1.1.length ≤ k ∧ ((ad = la ∧ X.1.1 = A) ∨ ∀ x, ad = some x → w.heap.size ≤ x.block) ∧ Below w.heap.size w w'
theorem row_ge {w : World} {B n k : Nat} {ad : Option Addr} {A : List Ac} (h : RowA w B (.slice ad n k) A) : ∀ x, ad = some x → B ≤ x.block := fun x hx => by
 rcases h.2 with ⟨e, -⟩ | ⟨g, cap, cur, e, hB, -⟩
 ·simp only [Value.slice.injEq] at e; rw [e.1] at hx; cases hx
 ·simp only [Value.slice.injEq] at e; rw [e.1] at hx; cases hx; exact hB
/-- What the region keeps in which the result is made. -/
structure KT (W : World) (r : Res) (bA bS : Bool) (x : Value) (V : World) : Prop where
 bel : Below W.heap.size W V
 o : bS = true → bA = true
 box : bA = true → ∃ g, x = .pointer (some ⟨g, 0, none⟩) ∧ W.heap.size ≤ g ∧ (bS = false → Bx V g (resA (zRes 0)) 39) ∧ (bS = true → Bx V g (resA r) 39)
theorem KT.alloc {W : World} {r : Res} {bS : Bool} {x : Value} {V : World} (h : KT W r false bS x V) : KT W r true bS (.pointer (some ⟨V.heap.size, 0, none⟩)) (V.alloc (.cells (resA (zRes 0)) 39)) := by
 obtain rfl := ff h.o rfl
 have hb : Below V.heap.size V (V.alloc (.cells (resA (zRes 0)) 39)) := (Below.refl _ V).alloc (Nat.le_refl _) _
 exact ⟨h.bel.trans (hb.mono h.bel.size), fun _ => rfl, fun _ => ⟨V.heap.size, rfl, h.bel.size, fun _ => heap_alloc_last V _, (fun e => nomatch e)⟩⟩
theorem KT.more {W : World} {r : Res} {bA bS : Bool} {x : Value} {V V2 : World} (h : KT W r bA bS x V) (hb : Below V.heap.size V V2) : KT W r bA bS x V2 :=
 ⟨h.bel.trans (hb.mono h.bel.size), h.o, fun e => by
  obtain ⟨g, h1, h2, h3, h4⟩ := h.box e
  exact ⟨g, h1, h2, fun e => (h3 e).below (h3 e).lt hb, fun e => (h4 e).below (h4 e).lt hb⟩⟩
theorem KT.store {W : World} {r : Res} {x : Value} {V : World} (h : KT W r true false x V) : ∃ g V2, x = .pointer (some ⟨g, 0, none⟩) ∧ (Instr.storeAt 39 (.pointer (some ⟨g, 0, none⟩)) (.agg (resA r))).run Tryz.prog V = .ok () V2 ∧ KT W r true true (.pointer (some ⟨g, 0, none⟩)) V2 := by
 obtain ⟨g, rfl, h2, h3, -⟩ := h.box rfl
 have hst := store_res (q := r) (h3 rfl)
 exact ⟨g, _, rfl, hst.1, belowRow h.bel h2 _, fun _ => rfl, fun _ => ⟨g, rfl, h2, (fun e => nomatch e), fun _ => hst.2⟩⟩
/-- The blocks that the last regions read. -/
structure PZ (g3 g8 g10 B : Nat) (lc : Array Value) (t : Txd) (ta : Option Addr) (tk : Nat) (r : Res) (V : World) : Prop where
 x3 : Bx V g3 lc 25
 x8 : Bx V g8 (txA t ta tk) 46
 x10 : Bx V g10 (resA r) 39
 row : RowT V B (.slice ta t.tr.length tk) t.tr
theorem PZ.but {g3 g8 g10 B g : Nat} {lc : Array Value} {t : Txd} {ta : Option Addr} {tk : Nat} {r : Res} {V V2 : World} (h : PZ g3 g8 g10 B lc t ta tk r V) (hb : But g V V2) (h3 : g3 ≠ g) (h8 : g8 ≠ g) (h10 : g10 ≠ g) (hB : g < B) : PZ g3 g8 g10 B lc t ta tk r V2 :=
 ⟨h.x3.but hb h3, h.x8.but hb h8, h.x10.but hb h10, own_but h.row hb hB⟩
theorem PZ.more {g3 g8 g10 B : Nat} {lc : Array Value} {t : Txd} {ta : Option Addr} {tk : Nat} {r : Res} {V V2 : World} (h : PZ g3 g8 g10 B lc t ta tk r V) (hb : Below V.heap.size V V2) : PZ g3 g8 g10 B lc t ta tk r V2 :=
 ⟨h.x3.below h.x3.lt hb, h.x8.below h.x8.lt hb, h.x10.below h.x10.lt hb, own_below h.row hb⟩
/-- The two results are stored, in whatever order; a ledger's row that was handed back stays. -/
structure KS (w : World) (g6 g7 B : Nat) (P : World → Prop) (Q : List Ac) (cc : Int) (r : Res) (bC s6 s7 : Bool) (x : Value) (V : World) : Prop where
 bel : Below w.heap.size w V
 p : P V
 o : s6 = true → bC = true
 row : bC = true → ∃ ad k, x = .agg (lgA ad Q.length k cc) ∧ Q.length ≤ k ∧ RowA V B (.slice ad Q.length k) Q
 x6 : s6 = false → Bx V g6 (lgA none 0 0 0) 25
 y6 : s6 = true → ∃ ad k, x = .agg (lgA ad Q.length k cc) ∧ Bx V g6 (lgA ad Q.length k cc) 25
 x7 : Bx V g7 (resA (cond s7 r (zRes 0))) 39
theorem KS.call {w : World} {g6 g7 B : Nat} {P : World → Prop} {Q : List Ac} {cc : Int} {r : Res} {s6 s7 : Bool} {x : Value} {V V2 : World} (h : KS w g6 g7 B P Q cc r false s6 s7 x V) (hB : B ≤ V.heap.size) (hP : P V2) (hb : Below V.heap.size V V2) {ad : Option Addr} {k : Nat} (hr : RowA V2 V.heap.size (.slice ad Q.length k) Q) : KS w g6 g7 B P Q cc r true s6 s7 (.agg (lgA ad Q.length k cc)) V2 := by
 obtain rfl := ff h.o rfl
 obtain ⟨a9, k9, e9, -, hk⟩ := hr.cs
 simp only [Value.slice.injEq, true_and] at e9
 obtain ⟨rfl, rfl⟩ := e9
 exact ⟨h.bel.trans (hb.mono h.bel.size), hP, (fun e => nomatch e), fun _ => ⟨_, _, rfl, hk, own_base hr hB⟩, fun e => (h.x6 e).below (h.x6 e).lt hb, (fun e => nomatch e), h.x7.below h.x7.lt hb⟩
theorem KS.st6 {w : World} {g6 g7 B : Nat} {P : World → Prop} {Q : List Ac} {cc : Int} {r : Res} {s7 : Bool} {x : Value} {V : World} (h : KS w g6 g7 B P Q cc r true false s7 x V) (hP : ∀ V2, But g6 V V2 → P V2) (h6 : w.heap.size ≤ g6) (hB : g6 < B) (hn : g7 ≠ g6) : ∃ ad k V2, x = .agg (lgA ad Q.length k cc) ∧ (Instr.storeAt 25 (.pointer (some ⟨g6, 0, none⟩)) (.agg (lgA ad Q.length k cc))).run Tryz.prog V = .ok () V2 ∧ KS w g6 g7 B P Q cc r true true s7 (.agg (lgA ad Q.length k cc)) V2 := by
 obtain ⟨ad, k, rfl, hk, hr⟩ := h.row rfl
 have hst := store_lg (a' := ad) (n' := Q.length) (k' := k) (c' := cc) (h.x6 rfl)
 have hbt : But g6 V (V.setRow g6 (lgA ad Q.length k cc)) := But.setRow _ _
 exact ⟨ad, k, _, rfl, hst.1, belowRow h.bel h6 _, hP _ hbt, fun _ => rfl, fun _ => ⟨ad, k, rfl, hk, own_but hr hbt hB⟩, (fun e => nomatch e), fun _ => ⟨ad, k, rfl, hst.2⟩, h.x7.but hbt hn⟩
theorem KS.st7 {w : World} {g6 g7 B : Nat} {P : World → Prop} {Q : List Ac} {cc : Int} {r : Res} {bC s6 : Bool} {x : Value} {V : World} (h : KS w g6 g7 B P Q cc r bC s6 false x V) (hP : ∀ V2, But g7 V V2 → P V2) (h7 : w.heap.size ≤ g7) (hB : g7 < B) (hn : g6 ≠ g7) : ∃ V2, (Instr.storeAt 39 (.pointer (some ⟨g7, 0, none⟩)) (.agg (resA r))).run Tryz.prog V = .ok () V2 ∧ KS w g6 g7 B P Q cc r bC s6 true x V2 := by
 have hst := store_res (q := r) h.x7
 have hbt : But g7 V (V.setRow g7 (resA r)) := But.setRow _ _
 exact ⟨_, hst.1, belowRow h.bel h7 _, hP _ hbt, h.o, fun e => by obtain ⟨ad, k, e1, hk, hr⟩ := h.row e; exact ⟨ad, k, e1, hk, own_but hr hbt hB⟩, fun e => (h.x6 e).but hbt hn, fun e => by obtain ⟨ad, k, e1, h2⟩ := h.y6 e; exact ⟨ad, k, e1, h2.but hbt hn⟩, hst.2⟩
/-- The ledger that was given and a result are stored, in whatever order. -/
structure K8 (w : World) (g6 g7 : Nat) (P : World → Prop) (lc : Array Value) (r : Res) (s6 s7 : Bool) (V : World) : Prop where
 bel : Below w.heap.size w V
 p : P V
 x6 : Bx V g6 (cond s6 lc (lgA none 0 0 0)) 25
 x7 : Bx V g7 (resA (cond s7 r (zRes 0))) 39
theorem K8.st6 {w : World} {g6 g7 : Nat} {P : World → Prop} {la : Option Addr} {n k : Nat} {c : Int} {r : Res} {s7 : Bool} {V : World} (h : K8 w g6 g7 P (lgA la n k c) r false s7 V) (hP : ∀ V2, But g6 V V2 → P V2) (h6 : w.heap.size ≤ g6) (hn : g7 ≠ g6) : ∃ V2, (Instr.storeAt 25 (.pointer (some ⟨g6, 0, none⟩)) (.agg (lgA la n k c))).run Tryz.prog V = .ok () V2 ∧ K8 w g6 g7 P (lgA la n k c) r true s7 V2 := by
 have hst := store_lg (a' := la) (n' := n) (k' := k) (c' := c) h.x6
 have hbt : But g6 V (V.setRow g6 (lgA la n k c)) := But.setRow _ _
 exact ⟨_, hst.1, belowRow h.bel h6 _, hP _ hbt, hst.2, h.x7.but hbt hn⟩
theorem K8.st7 {w : World} {g6 g7 : Nat} {P : World → Prop} {lc : Array Value} {r : Res} {s6 : Bool} {V : World} (h : K8 w g6 g7 P lc r s6 false V) (hP : ∀ V2, But g7 V V2 → P V2) (h7 : w.heap.size ≤ g7) (hn : g6 ≠ g7) : ∃ V2, (Instr.storeAt 39 (.pointer (some ⟨g7, 0, none⟩)) (.agg (resA r))).run Tryz.prog V = .ok () V2 ∧ K8 w g6 g7 P lc r s6 true V2 := by
 have hst := store_res (q := r) h.x7
 have hbt : But g7 V (V.setRow g7 (resA r)) := But.setRow _ _
 exact ⟨_, hst.1, belowRow h.bel h7 _, hP _ hbt, h.x6.but hbt hn, hst.2⟩
theorem K8.start {w V : World} {g6 g7 : Nat} {P : World → Prop} {lc : Array Value} {r : Res} (hb : Below w.heap.size w V) (hp : P V.drew) (h6 : Bx V g6 (lgA none 0 0 0) 25) (h7 : Bx V g7 (resA (zRes 0)) 39) : K8 w g6 g7 P lc r false false V.drew := ⟨hb.drew, hp, h6, h7⟩
theorem KS.start {w V : World} {g6 g7 B : Nat} {P : World → Prop} {Q : List Ac} {cc : Int} {r : Res} (hb : Below w.heap.size w V) (hp : P V.drew) (h6 : Bx V g6 (lgA none 0 0 0) 25) (h7 : Bx V g7 (resA (zRes 0)) 39) : KS w g6 g7 B P Q cc r false false false undef V.drew := ⟨hb.drew, hp, (fun e => nomatch e), (fun e => nomatch e), fun _ => h6, (fun e => nomatch e), h7⟩
theorem KT.start (V : World) (r : Res) : KT V r false false undef V.drew := ⟨(Below.refl _ V).drew, (fun e => nomatch e), (fun e => nomatch e)⟩
theorem PZ.drew {g3 g8 g10 B : Nat} {lc : Array Value} {t : Txd} {ta : Option Addr} {tk : Nat} {r : Res} {V : World} (h : PZ g3 g8 g10 B lc t ta tk r V) : PZ g3 g8 g10 B lc t ta tk r V.drew := ⟨h.x3, h.x8, h.x10, h.row⟩
theorem tx_1 {A : List Ac} {c price : Int} {L : List Int} (h : valE A c ≠ 0) : txX A c price L = ((A, c), zRes 1) := if_pos h
theorem tx_2 {A : List Ac} {c price : Int} {L : List Int} (h : valE A c = 0) (h2 : (decX L).2 ≠ 0) : txX A c price L = ((A, c), zRes (decX L).2) := by
 unfold txX; rw [if_neg (by rw [h]; decide), if_pos h2]
theorem tx_3 {A : List Ac} {c price : Int} {L : List Int} (h : valE A c = 0) (h2 : (decX L).2 = 0) (h3 : faultX A price (decX L).1 L.length ≠ 0) : txX A c price L = ((A, c), ⟨faultX A price (decX L).1 L.length, (decX L).1.snd, (decX L).1.sq, (decX L).1.gas, prioV (decX L).1.fee (decX L).1.gas⟩) := by
 unfold txX; rw [if_neg (by rw [h]; decide), if_neg (by rw [h2]; decide), if_pos h3]
theorem tx_4 {A : List Ac} {c price : Int} {L : List Int} (h : valE A c = 0) (h2 : (decX L).2 = 0) (h3 : faultX A price (decX L).1 L.length = 0) : txX A c price L = ((doneL A (decX L).1, c + (decX L).1.fee), ⟨faultX A price (decX L).1 L.length, (decX L).1.snd, (decX L).1.sq, (decX L).1.gas, prioV (decX L).1.fee (decX L).1.gas⟩) := by
 unfold txX; rw [if_neg (by rw [h]; decide), if_neg (by rw [h2]; decide), if_neg (by rw [h3]; decide), h3]
theorem fa_q {A : List Ac} {c price : Int} {L : List Int} (h8 : ∀ y, y ∈ L → W8 y) (hv : valE A c = 0) (hw : AcW A) (hc : W64 c) (hp : W64 price) (h2 : (decX L).2 = 0) : FaQ A c price (decX L).1 := by
 obtain ⟨h3, -, h4, -⟩ := dec_ok (t := (decX L).1) (fun x hx => h8 x hx) (by rw [← h2])
 exact ⟨hv, hw, hc, hp, h4.sq, h4.gas, h4.fee, h4.am, (val_ok h3 h4.sq h4.gas h4.fee h4.am).2.2⟩
/-- A transaction with no fault can be carried out. -/
theorem fault_0 {A : List Ac} {c price size : Int} {t : Txd} (h : FaQ A c price t) (h0 : faultX A price t size = 0) : DnQ A c t ∧ (doneL A t).length ≤ 256 := by
 unfold faultX at h0
 split at h0
 ·omega
 rename_i c1
 split at h0
 ·omega
 rename_i c2
 split at h0
 ·omega
 rename_i c3
 split at h0
 ·omega
 split at h0
 ·omega
 split at h0
 ·omega
 split at h0
 ·omega
 rename_i c4
 split at h0
 ·omega
 rename_i c5
 split at h0
 ·omega
 rename_i c6
 exact ⟨h.dn (by simpa using c1) (by simpa using c2) c3 (by simpa using c4) c5, by omega⟩
end Go.Proofs.YtglglhcnofbagaaGreat.Lg
