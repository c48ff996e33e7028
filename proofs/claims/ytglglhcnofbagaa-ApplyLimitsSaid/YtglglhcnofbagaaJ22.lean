/-
  The program's parts of a transaction as plain data. The program's clone, decode, sender, checkFee: contracts. The program's take and give: contracts.
-/
import Derived.Test.YtglglhcnofbagaaJ21
import Derived.Test.YtglglhcnofbagaaJ20
namespace Go.Proofs.Ytglglhcnofbagaa.Lg
set_option maxRecDepth 100000
open Mo (usedV prioV mulB mulV)
open Go.RowKit
set_option linter.unusedSimpArgs false
set_option linter.unusedVariables false

/-- The sender's account, or the first error. -/
def senX (A : List Ac) (t : Txd) : Ac × Int := if (getX A t.snd).2 = false then (zAc, 13) else if (getX A t.snd).1.2.2 ≠ t.sq then (zAc, 14) else if t.sq = 18446744073709551615 then (zAc, 6) else ((getX A t.snd).1, 0)
def feeX (t : Txd) (price size : Int) : Int := if t.gas < usedV size t.tr.length then 15 else if mulB t.gas price = false then 6 else if t.fee < mulV t.gas price then 16 else 0
def takX (A : List Ac) (c : Int) (t : Txd) : List Ac × Int × Int := if cosB t = false then ([], 0, 6) else if (getX A t.snd).1.2.1 < cosV t then ([], 0, 17) else (subA A t, c, 0)
def givX (A : List Ac) (c : Int) (t : Txd) : List Ac × Int × Int := if 256 < (doneL A t).length then ([], 0, 3) else (doneL A t, c, 0)
def carX (A : List Ac) (c price : Int) (t : Txd) (size : Int) : List Ac × Int × Int := if faultX A price t size = 0 then (doneL A t, c + t.fee, 0) else ([], 0, faultX A price t size)
theorem sen_err {A : List Ac} {c price size : Int} {t : Txd} (h : (senX A t).2 ≠ 0) : carX A c price t size = ([], 0, (senX A t).2) := by
 have e : faultX A price t size = (senX A t).2 := by
  revert h
  unfold senX faultX
  by_cases h1 : (getX A t.snd).2 = false
  ·rw [if_pos h1, if_pos h1]; intro _; rfl
  rw [if_neg h1, if_neg h1]
  by_cases h2 : (getX A t.snd).1.2.2 ≠ t.sq
  ·rw [if_pos h2, if_pos h2]; intro _; rfl
  rw [if_neg h2, if_neg h2]
  by_cases h3 : t.sq = 18446744073709551615
  ·rw [if_pos h3, if_pos h3]; intro _; rfl
  rw [if_neg h3, if_neg h3]; intro h4; exact absurd rfl h4
 unfold carX
 rw [e, if_neg h]
theorem sen_ok {A : List Ac} {t : Txd} (h : (senX A t).2 = 0) : (getX A t.snd).2 = true ∧ (getX A t.snd).1.2.2 = t.sq ∧ ¬ t.sq = 18446744073709551615 ∧ (senX A t).1 = (getX A t.snd).1 := by
 revert h
 unfold senX
 by_cases h1 : (getX A t.snd).2 = false
 ·rw [if_pos h1]; intro h; exact absurd h (by decide)
 rw [if_neg h1]
 by_cases h2 : (getX A t.snd).1.2.2 ≠ t.sq
 ·rw [if_pos h2]; intro h; exact absurd h (by decide)
 rw [if_neg h2]
 by_cases h3 : t.sq = 18446744073709551615
 ·rw [if_pos h3]; intro h; exact absurd h (by decide)
 rw [if_neg h3]; intro _
 exact ⟨by simpa using h1, Decidable.not_not.1 h2, h3, rfl⟩
theorem fault_mid {A : List Ac} {price size : Int} {t : Txd} (h : (senX A t).2 = 0) : faultX A price t size = if feeX t price size ≠ 0 then feeX t price size else if cosB t = false then 6 else if (getX A t.snd).1.2.1 < cosV t then 17 else if 256 < (doneL A t).length then 3 else 0 := by
 obtain ⟨h1, h2, h3, -⟩ := sen_ok h
 unfold faultX feeX
 rw [if_neg (by rw [h1]; decide), if_neg (fun q => q h2), if_neg h3]
 by_cases h4 : t.gas < usedV size t.tr.length
 ·rw [if_pos h4, if_pos h4, if_pos (by decide)]
 rw [if_neg h4, if_neg h4]
 by_cases h5 : mulB t.gas price = false
 ·rw [if_pos h5, if_pos h5, if_pos (by decide)]
 rw [if_neg h5, if_neg h5]
 by_cases h6 : t.fee < mulV t.gas price
 ·rw [if_pos h6, if_pos h6, if_pos (by decide)]
 rw [if_neg h6, if_neg h6]
 rfl
theorem fee_err {A : List Ac} {c price size : Int} {t : Txd} (h : (senX A t).2 = 0) (h1 : feeX t price size ≠ 0) : carX A c price t size = ([], 0, feeX t price size) := by
 have e := fault_mid (price := price) (size := size) h
 rw [if_pos h1] at e
 unfold carX
 rw [e, if_neg h1]
theorem tak_err {A : List Ac} {c price size : Int} {t : Txd} (h : (senX A t).2 = 0) (h1 : feeX t price size = 0) (h2 : (takX A c t).2.2 ≠ 0) : carX A c price t size = ([], 0, (takX A c t).2.2) := by
 have e := fault_mid (price := price) (size := size) h
 rw [if_neg (by rw [h1]; decide)] at e
 have e2 : faultX A price t size = (takX A c t).2.2 := by
  revert h2
  rw [e]
  unfold takX
  by_cases c1 : cosB t = false
  ·rw [if_pos c1, if_pos c1]; intro _; rfl
  rw [if_neg c1, if_neg c1]
  by_cases c2 : (getX A t.snd).1.2.1 < cosV t
  ·rw [if_pos c2, if_pos c2]; intro _; rfl
  rw [if_neg c2]; intro h; exact absurd rfl h
 unfold carX
 rw [e2, if_neg h2]
theorem tak_ok {A : List Ac} {c : Int} {t : Txd} (h2 : (takX A c t).2.2 = 0) : cosB t = true ∧ ¬ (getX A t.snd).1.2.1 < cosV t ∧ takX A c t = (subA A t, c, 0) := by
 revert h2
 unfold takX
 by_cases c1 : cosB t = false
 ·rw [if_pos c1]; intro h; exact absurd h (by decide)
 rw [if_neg c1]
 by_cases c2 : (getX A t.snd).1.2.1 < cosV t
 ·rw [if_pos c2]; intro h; exact absurd h (by decide)
 rw [if_neg c2]; intro _
 exact ⟨by simpa using c1, c2, rfl⟩
theorem giv_car {A : List Ac} {c price size : Int} {t : Txd} (h : (senX A t).2 = 0) (h1 : feeX t price size = 0) (h2 : (takX A c t).2.2 = 0) : carX A c price t size = if (givX A c t).2.2 = 0 then ((givX A c t).1, c + t.fee, 0) else ([], 0, (givX A c t).2.2) := by
 obtain ⟨c1, c2, -⟩ := tak_ok h2
 have e := fault_mid (price := price) (size := size) h
 rw [if_neg (by rw [h1]; decide), if_neg (by rw [c1]; decide), if_neg c2] at e
 unfold carX givX
 rw [e]
 by_cases c3 : 256 < (doneL A t).length
 ·rw [if_pos c3, if_pos c3, if_neg (by decide), if_neg (by decide)]
 ·rw [if_neg c3, if_neg c3, if_pos rfl]
theorem car_tx {A : List Ac} {c price : Int} {L : List Int} (hv : valE A c = 0) (hd : (decX L).2 = 0) : txX A c price L = (if (carX A c price (decX L).1 L.length).2.2 = 0 then ((carX A c price (decX L).1 L.length).1, (carX A c price (decX L).1 L.length).2.1) else (A, c), ⟨(carX A c price (decX L).1 L.length).2.2, (decX L).1.snd, (decX L).1.sq, (decX L).1.gas, prioV (decX L).1.fee (decX L).1.gas⟩) := by
 unfold txX carX
 rw [if_neg (by rw [hv]; decide), if_neg (by rw [hd]; decide)]
 by_cases h : faultX A price (decX L).1 L.length = 0
 ·rw [h, if_neg (by decide), if_pos rfl, if_pos rfl]
 ·rw [if_pos h, if_neg h, if_neg h]
/-- The account of a name as Get and the name give it. -/
theorem getA_getX (A : List Ac) (s : ByteArray) : getA A s = (s, (getX A s).1.2.1, (getX A s).1.2.2) := by
 unfold getA getX
 by_cases h : fndL A s < A.length
 ·rw [if_pos h, if_pos h]
  have := (fnd_at h).1
  show aca A (fndL A s) = (s, (aca A (fndL A s)).2.1, (aca A (fndL A s)).2.2)
  generalize aca A (fndL A s) = y at *
  subst this
  rfl
 ·rw [if_neg h, if_neg h]; rfl
theorem set_take {A : List Ac} {c : Int} {t : Txd} (hv : valE A c = 0) (h1 : (getX A t.snd).2 = true) (h0 : 0 ≤ cosV t) : setX A c ((getX A t.snd).1.1, (getX A t.snd).1.2.1 - cosV t, (getX A t.snd).1.2.2 + 1) = (subA A t, c, 0) := by
 obtain ⟨v1, v2, v3, v4⟩ := valE_ok hv
 obtain ⟨f1, f2, f3⟩ := get_name h1
 have hs : putL A ((getX A t.snd).1.1, (getX A t.snd).1.2.1 - cosV t, (getX A t.snd).1.2.2 + 1) = subA A t := rfl
 have hl : (subA A t).length = A.length := by
  rw [← hs, put_len]; simp only [f3]; rw [if_pos f1]
 have ht : totB (subA A t) c = true := decide_eq_true (by
  have v5 : tot (c :: bals A) < 18446744073709551616 := of_decide_eq_true v4
  rw [tot_cons] at v5 ⊢
  rw [sub_tot h1]; omega)
 rw [set_fin hv (by show isName (nums (getX A t.snd).1.1) = true; rw [f2]; exact v3 _ f1) (by rw [hs, hl]; omega), hs, ht]
 rfl
theorem sub_val {A : List Ac} {c : Int} {t : Txd} (hv : valE A c = 0) (h1 : (getX A t.snd).2 = true) (h0 : 0 ≤ cosV t) : valE (subA A t) c = 0 := by
 have h := set_take hv h1 h0
 obtain ⟨-, -, -, h4⟩ := setX_ok (A := A) (c := c) (a := ((getX A t.snd).1.1, (getX A t.snd).1.2.1 - cosV t, (getX A t.snd).1.2.2 + 1)) (by rw [h])
 exact h4
theorem set_give {B : List Ac} {c : Int} {x : Tf} (hv : valE B c = 0) (hn : isName (nums x.1) = true) (ht : c + (tot (bals B) + x.2) < 18446744073709551616) : setX B c (x.1, (getX B x.1).1.2.1 + x.2, (getX B x.1).1.2.2) = if 256 < (givA B x).length then ([], 0, 3) else (givA B x, c, 0) := by
 have hs : putL B (x.1, (getX B x.1).1.2.1 + x.2, (getX B x.1).1.2.2) = givA B x := by unfold givA; rw [getA_getX]
 by_cases hl : 256 < (givA B x).length
 ·rw [if_pos hl]
  exact set_e3 hv hn (by rw [hs]; exact hl)
 ·rw [if_neg hl, set_fin hv hn (by rw [hs]; exact hl), hs]
  have ht : totB (givA B x) c = true := decide_eq_true (by rw [tot_cons, giv_tot]; exact ht)
  rw [ht]; rfl
theorem giv_val {B : List Ac} {c : Int} {x : Tf} (hv : valE B c = 0) (hn : isName (nums x.1) = true) (ht : c + (tot (bals B) + x.2) < 18446744073709551616) (hl : ¬ 256 < (givA B x).length) : valE (givA B x) c = 0 := by
 have h := set_give hv hn ht
 rw [if_neg hl] at h
 obtain ⟨h3, -, -, h4⟩ := setX_ok (A := B) (c := c) (a := (x.1, (getX B x.1).1.2.1 + x.2, (getX B x.1).1.2.2)) (by rw [h])
 rw [h] at h3
 rw [Prod.mk.injEq] at h3
 rw [h3.1]; exact h4
theorem giv_len (A : List Ac) (x : Tf) : A.length ≤ (givA A x).length := by
 unfold givA; rw [put_len]; split <;> omega
theorem fold_len : ∀ (L : List Tf) (A : List Ac), A.length ≤ (L.foldl givA A).length
 | [], _ => Nat.le_refl _
 | x :: L, A => by rw [List.foldl_cons]; exact Nat.le_trans (giv_len A x) (fold_len L _)
theorem giveJ_len (A : List Ac) (t : Txd) (j : Nat) : (giveJ A t j).length ≤ (doneL A t).length := by
 unfold doneL giveJ
 rw [List.take_length]
 have h : (t.tr.foldl givA (subA A t)) = (t.tr.drop j).foldl givA ((t.tr.take j).foldl givA (subA A t)) := by rw [← List.foldl_append, List.take_append_drop]
 rw [h]
 exact fold_len _ _
end Go.Proofs.Ytglglhcnofbagaa.Lg
namespace Go.Proofs.Ytglglhcnofbagaa.Lg
attribute [local irreducible] wpList wpQuiet
set_option maxRecDepth 100000
open Mo (usedV prioV mulB mulV)
open Go.RowKit
set_option linter.unusedSimpArgs false
set_option linter.unusedVariables false

def subB (a b : Int) : Bool := decide (b ≤ a)
def subV (a b : Int) : Int := if b ≤ a then a - b else 0
set_option maxRecDepth 100000 in
theorem money_sub (a b : Int) (w : World) (ha : W64 a) (hb : W64 b) :
  Calls Try.prog 58 #[.int .u64 a, .int .u64 b] w fun e w' => e = .returned (.tuple #[.int .u64 (subV a b), .bool (subB a b)]) ∧ w = w' := by
 obtain ⟨a0, a1⟩ := ha; obtain ⟨b0, b1⟩ := hb
 by_cases h : b ≤ a
 ·have e1 : subV a b = a - b := if_pos h
  have e2 : subB a b = true := decide_eq_true h
  rw [e1, e2]
  clear e1 e2
  go_enter Try.func58, Try.ntmps58
  go_wp2
  go_ret2
  exact ⟨rfl, rfl⟩
 ·have e1 : subV a b = 0 := if_neg h
  have e2 : subB a b = false := decide_eq_false h
  rw [e1, e2]
  clear e1 e2
  go_enter Try.func58, Try.ntmps58
  go_wp2
  go_ret2
  exact ⟨rfl, rfl⟩
set_option maxRecDepth 100000 in
set_option maxHeartbeats 8000000 in
theorem q_cl (a : Option Addr) (k : Nat) (A : List Ac) (c : Int) (w : World) (hR : Cs w a (acc A)) (hn : A.length ≤ 4398046511104) :
  Calls Try.prog 13 #[.agg (lgA a A.length k c)] w (LedR w A c) := by
 obtain ⟨hb0, hX1, hX2⟩ := two_boxes w (lgA a A.length k c) (lgA none 0 0 0) 27 27
 have hA := hR.below hb0
 obtain ⟨n, hnn⟩ : ∃ n, A.length = n := ⟨_, rfl⟩
 have CC := fun V h => q_clone a k A V h hn
 have HN := Lib.hid hnn
 rw [hnn] at hb0 hX1 hX2 hA CC ⊢
 clear hR hn hnn
 go_enter Try.func13, Try.ntmps13
 go_upto_region 1 with fail
 change Code.wp _ _ _ _ ((w.alloc (.cells (lgA a n k c) 27)).alloc (.cells (lgA none 0 0 0) 27))
 generalize (w.alloc (.cells (lgA a n k c) 27)).alloc (.cells (lgA none 0 0 0) 27) = W at *
 obtain ⟨g1, hg1⟩ : ∃ g1, w.heap.size = g1 := ⟨_, rfl⟩
 obtain ⟨g2, hg2⟩ : ∃ g2, g1 + 1 = g2 := ⟨_, rfl⟩
 have HB0 := Lib.hid hb0
 rw [show w.heap.size + 1 = g2 by omega] at hX2
 have HG : Hid (w.heap.size ≤ g1 ∧ w.heap.size ≤ g2 ∧ g1 ≠ g2 ∧ g2 ≠ g1 ∧ g1 < W.heap.size ∧ g2 < W.heap.size) := Lib.hid ⟨by omega, by omega, by omega, by omega, by rw [hg1] at hX1; exact hX1.lt, hX2.lt⟩
 rw [hg1] at hX1
 simp only [hg1]
 simp only [hg2]
 have HX1 := Lib.hid hX1
 have HX2 := Lib.hid hX2
 have CCW := CC W hA
 clear hb0 hX1 hX2 hA hg1 hg2 CC
 refine wl <| gz1 (.pointer (some ⟨g1, 0, none⟩)) <| gzl rfl ⟨g1, 0, none⟩ (.slice a n k) (HX1.out.load (i := 0) rfl (by kernel_rfl)) <| gze (fun v w' => RowA w' W.heap.size v A ∧ Below W.heap.size W w') (CCW.mono fun e w' q => by obtain ⟨v, h1, h2, h3⟩ := q; exact ⟨v, h1, h2, h3⟩) (fun vv V1 hq => ?_)
 obtain ⟨hr1, hb1⟩ := hq
 obtain ⟨ad, cd, rfl, -, -⟩ := hr1.cs
 rw [HN.out]
 rw [HN.out] at hr1
 obtain ⟨V2, hst2, hX12, hb2, hbt2⟩ := st_cell (i := 0) (ty := 25) (v := .slice ad n cd) (cs' := lgA ad n cd c) (HX1.out.below HX1.out.lt hb1) (HB0.out.trans (hb1.mono HB0.out.size)) HG.out.1 (by show 0 < 2; decide) rfl (by kernel_rfl) rfl
 have hr2 := own_but hr1 hbt2 HG.out.2.2.2.2.1
 simp only [pu]
 refine gz1 (.pointer (some ⟨g1, 0, none⟩)) <| gzs rfl (hst2) <| wn ?_
 simp only [pu]
 have hX22 := (HX2.out.below HX2.out.lt hb1).but hbt2 HG.out.2.2.2.1
 obtain ⟨hst3, hX23⟩ := store_lg (a' := ad) (n' := n) (k' := cd) (c' := c) hX22
 have hr3 := own_but hr2 (But.setRow (g := g2) V2 (lgA ad n cd c)) HG.out.2.2.2.2.2
 have hb3 := belowRow hb2 HG.out.2.1 (lgA ad n cd c)
 have HE : Hid (RowA (V2.setRow g2 (lgA ad n cd c)) w.heap.size (.slice ad n cd) A ∧ Below w.heap.size w (V2.setRow g2 (lgA ad n cd c))) := Lib.hid ⟨own_base hr3 HB0.out.size, hb3⟩
 generalize V2.setRow g2 (lgA ad n cd c) = V3 at *
 clear CCW hr1 hb1 hst2 hb2 hbt2 hr2 hX22 hr3 hb3
 go_upto_region 2 with fail
 refine wl <| gzl rfl ⟨g1, 0, none⟩ (.agg (lgA ad n cd c)) (load_lg hX12) <| gzs rfl (hst3) <| wn ?_
 simp only [pu]
 go_wp2_with fail
 exact bodyPost_ret (results_1c rfl (by kernel_rfl) (load_lg hX23)) rfl ⟨ad, cd, by rw [HN.out], by rw [HN.out]; exact HE.out.1, HE.out.2⟩
/-- What decode hands back. -/
def dcdX (A : List Ac) (c : Int) (L : List Int) : Txd × Int := if valE A c ≠ 0 then (zX, 1) else decX L
set_option maxRecDepth 100000 in
set_option maxHeartbeats 8000000 in
theorem q_dcd (A : List Ac) (c : Int) (L : List Int) (la ra : Option Addr) (lk rc : Nat) (w : World) (hL : Cs w la (acc A)) (hn : A.length ≤ 4398046511104) (hc : W64 c) (hw : AcW A) (hz : ∀ x, x ∈ A → x.1.size ≤ 140737488355328) (hR : Sl w ra rc L) (hrc : L.length ≤ rc) (h8 : ∀ y, y ∈ L → W8 y) :
  Calls Try.prog 12 #[.agg (lgA la A.length lk c), .slice ra L.length rc] w (DecO w (dcdX A c L)) := by
 obtain ⟨hb0, hX2, hX4⟩ := two_boxes w (lgA la A.length lk c) (txA zX none 0) 27 32
 have hA := hL.below hb0
 have HRW := Lib.hid (sl_below hR hb0)
 obtain ⟨D, hD⟩ : ∃ D, dcdX A c L = D := ⟨_, rfl⟩
 have H1 : Hid (valE A c ≠ 0 → D = (zX, 1)) := Lib.hid fun h => by rw [← hD]; exact if_pos h
 have H2 : Hid (valE A c = 0 → D = decX L) := Lib.hid fun h => by rw [← hD]; exact if_neg (by rw [h]; decide)
 have CV := fun V h => q_validate la lk A c V h hn hc hw hz
 have CD := Lib.hid (fun V (h : Sl V ra rc L) => q_decode ra rc L V h hrc h8)
 rw [hD]
 generalize valE A c = ve at *
 clear hL hR hz h8 hD
 go_enter Try.func12, Try.ntmps12
 go_upto_region 1 with fail
 change Code.wp _ _ _ _ ((w.alloc (.cells (lgA la A.length lk c) 27)).alloc (.cells (txA zX none 0) 32))
 generalize (w.alloc (.cells (lgA la A.length lk c) 27)).alloc (.cells (txA zX none 0) 32) = W at *
 obtain ⟨g2, hg2⟩ : ∃ g2, w.heap.size = g2 := ⟨_, rfl⟩
 obtain ⟨g4, hg4⟩ : ∃ g4, g2 + 1 = g4 := ⟨_, rfl⟩
 have HB0 := Lib.hid hb0
 rw [show w.heap.size + 1 = g4 by omega] at hX4
 have HG : Hid (w.heap.size ≤ g4 ∧ g4 < W.heap.size) := Lib.hid ⟨by omega, hX4.lt⟩
 rw [hg2] at hX2
 simp only [hg2]
 simp only [hg4]
 have HX2 := Lib.hid hX2
 have HX4 := Lib.hid hX4
 have CVW := CV W hA
 clear hb0 hX2 hX4 hA hg2 hg4 CV
 refine wl <| gzl rfl ⟨g2, 0, none⟩ (.agg (lgA la A.length lk c)) (load_lg HX2.out) <| gzc (.int .i64 ve) (fun w' => Below W.heap.size W w') (CVW) (fun W1 hW1 => ?_)
 simp only [pu]
 have HB1 := Lib.hid (HB0.out.trans (hW1.mono HB0.out.size))
 have HX41 := Lib.hid (HX4.out.below HX4.out.lt hW1)
 have HRW1 := Lib.hid (sl_below HRW.out hW1)
 have HS1 : Hid (W.heap.size ≤ W1.heap.size) := Lib.hid hW1.size
 clear CVW hW1 HX4 HRW HX2
 by_cases hv : ve = 0
 ·skip
  subst hv
  refine gzb (neq_e rfl 0 0 (decide_eq_true rfl)) <| wn ?_
  simp only [pu]
  have hd := H2.out rfl
  subst hd
  have CDW := CD.out W1 HRW1.out
  generalize decX L = D at *
  clear CD H1 H2
  go_upto_region 3 with fail
  refine wl <| gz1 (.slice ra L.length rc) <| gze (fun v w' => ∃ a c, v = .tuple #[.agg (txA D.1 a c), .int .i64 D.2] ∧ RowT w' W1.heap.size (.slice a D.1.tr.length c) D.1.tr ∧ Below W1.heap.size W1 w') (CDW.mono fun e w' q => by obtain ⟨a, c, h1, h2⟩ := q; exact ⟨_, h1, a, c, rfl, h2⟩) (fun vv W2 hq => ?_)
  obtain ⟨ta, tk, rfl, hrt, hb2⟩ := hq
  obtain ⟨hst3, hX3⟩ := store_txz (y := D.1) (a' := ta) (c' := tk) (HX41.out.below HX41.out.lt hb2)
  have hrt3 := own_but hrt (But.setRow (g := g4) W2 (txA D.1 ta tk)) (Nat.lt_of_lt_of_le HG.out.2 HS1.out)
  have hb3 := belowRow (HB1.out.trans (hb2.mono HB1.out.size)) HG.out.1 (txA D.1 ta tk)
  have HE : Hid (DecO w D (.returned (.tuple #[.agg (txA D.1 ta tk), .int .i64 D.2])) (W2.setRow g4 (txA D.1 ta tk))) := Lib.hid ⟨ta, tk, rfl, own_base hrt3 HB1.out.size, hb3⟩
  generalize W2.setRow g4 (txA D.1 ta tk) = W3 at *
  clear hrt hb2 hrt3 hb3
  simp only [pu]
  refine gz2 (.agg (txA D.1 ta tk)) (.int .i64 D.2) <| gzs rfl (hst3) <| gz1 (.int .i64 D.2) <| wn ?_
  simp only [pu]
  go_wp2_with fail
  exact bodyPost_ret (results_c (p := 4) (q := 5) rfl (by kernel_rfl) (load_txb hX3) rfl) rfl HE.out
 ·skip
  refine gzb (neq_e rfl ve 0 (decide_eq_false hv)) <| wn ?_
  simp only [pu]
  have hd := H1.out hv
  subst hd
  obtain ⟨hst3, hX3⟩ := store_txz (y := zX) (a' := none) (c' := 0) HX41.out
  have hb3 := belowRow HB1.out HG.out.1 (txA zX none 0)
  have HE : Hid (DecO w (zX, 1) (.returned (.tuple #[.agg (txA zX none 0), .int .i64 1])) (W1.setRow g4 (txA zX none 0))) := Lib.hid ⟨none, 0, rfl, RowT.nil _ _, hb3⟩
  generalize W1.setRow g4 (txA zX none 0) = W3 at *
  clear CD H1 H2 hb3
  go_upto_region 2 with fail
  refine wl <| gz1 (.agg (txA zX none 0)) <| gzs rfl (hst3) <| gz1 (.int .i64 1) <| wn ?_
  simp only [pu]
  go_wp2_with fail
  exact bodyPost_ret (results_c (p := 4) (q := 5) rfl (by kernel_rfl) (load_txb hX3) rfl) rfl HE.out
set_option maxRecDepth 100000 in
set_option maxHeartbeats 8000000 in
theorem q_sender (A : List Ac) (c : Int) (t : Txd) (la ta : Option Addr) (lk tk : Nat) (w : World) (hL : Cs w la (acc A)) (hn : A.length ≤ 4398046511104) :
  Calls Try.prog 31 #[.agg (lgA la A.length lk c), .agg (txA t ta tk)] w fun e w' => e = .returned (.tuple #[.agg (acA (senX A t).1), .int .i64 (senX A t).2]) ∧ Below w.heap.size w w' := by
 obtain ⟨hb0, hX2, hX3, hX4⟩ := three_boxes w (lgA la A.length lk c) (txA t ta tk) (acA zAc) 27 32 24
 have hA := hL.below hb0
 have CG0 := fun V h => q_get la lk A c t.snd V h hn
 obtain ⟨r, hr⟩ : ∃ r, senX A t = r := ⟨_, rfl⟩
 have hr0 := hr
 unfold senX at hr0
 obtain ⟨y, hy⟩ : ∃ y, (getX A t.snd).1 = y := ⟨_, rfl⟩
 obtain ⟨gb, hgb⟩ : ∃ gb, (getX A t.snd).2 = gb := ⟨_, rfl⟩
 rw [hy, hgb] at hr0 CG0
 have HR := Lib.hid hr0.symm
 rw [hr]
 clear hL hn hr hr0 hy hgb
 go_enter Try.func31, Try.ntmps31
 go_upto_region 1 with fail
 change Code.wp _ _ _ _ (((w.alloc (.cells (lgA la A.length lk c) 27)).alloc (.cells (txA t ta tk) 32)).alloc (.cells (acA zAc) 24))
 generalize ((w.alloc (.cells (lgA la A.length lk c) 27)).alloc (.cells (txA t ta tk) 32)).alloc (.cells (acA zAc) 24) = W at *
 obtain ⟨g2, hg2⟩ : ∃ g2, w.heap.size = g2 := ⟨_, rfl⟩
 obtain ⟨g3, hg3⟩ : ∃ g3, g2 + 1 = g3 := ⟨_, rfl⟩
 obtain ⟨g4, hg4⟩ : ∃ g4, g3 + 1 = g4 := ⟨_, rfl⟩
 have HB0 := Lib.hid hb0
 rw [show w.heap.size + 2 = g4 by omega] at hX4
 rw [show w.heap.size + 1 = g3 by omega] at hX3
 have HG : Hid (w.heap.size ≤ g4) := Lib.hid (by omega)
 rw [hg2] at hX2
 simp only [hg2]
 simp only [hg3]
 simp only [hg4]
 have HX2 := Lib.hid hX2
 have HX3 := Lib.hid hX3
 have HX4 := Lib.hid hX4
 have CG := CG0 W hA
 clear hb0 hX2 hX3 hX4 hA hg2 hg3 hg4 CG0
 refine wl <| gzl rfl ⟨g2, 0, none⟩ (.agg (lgA la A.length lk c)) (load_lg HX2.out) <| gz1 (.pointer (some ⟨g3, 0, none⟩)) <| gzl rfl ⟨g3, 0, none⟩ (.string t.snd) (HX3.out.load (i := 0) rfl (by kernel_rfl)) <| gzc (.tuple #[.agg (acA y), .bool gb]) (fun w' => Below W.heap.size W w') CG (fun W1 hW1 => ?_)
 obtain ⟨V2, hst2, hb2, hbx2⟩ := new_ac W1 y
 simp only [pu]
 refine gz3 (.tuple #[.agg (acA y), .bool gb]) (.agg (acA y)) (.bool gb) ?_
 simp only [pu]
 refine run_to rfl (some 6) rfl (.pointer (some ⟨W1.heap.size, 0, none⟩)) (W1.alloc (.cells (acA zAc) 24)) (by kernel_rfl) ?_
 simp only [pu]
 refine gzs rfl (hst2) <| gz1 (.bool gb) <| wn ?_
 simp only [pu]
 have hb3 := hW1.trans (hb2.mono hW1.size)
 obtain ⟨g6, hg6⟩ : ∃ g6, W1.heap.size = g6 := ⟨_, rfl⟩
 rw [hg6] at hbx2 ⊢
 have HX6 := Lib.hid hbx2
 have HB2 := Lib.hid (HB0.out.trans (hb3.mono HB0.out.size))
 have HX32 := Lib.hid (HX3.out.below HX3.out.lt hb3)
 have HX42 := HX4.out.below HX4.out.lt hb3
 clear CG hW1 hst2 hb2 hg6 hbx2 hb3 HX2 HX3 HX4
 cases gb
 ·skip
  go_upto_region 2 with fail
  refine wl <| gz3 (.bool false) (.bool true) (.bool true) <| wn ?_
  simp only [pu]
  obtain rfl : r = (zAc, 13) := by rw [HR.out]; rfl
  obtain ⟨hst, hX9⟩ := store_ac (y := zAc) HX42
  have HB9 := Lib.hid (belowRow HB2.out HG.out (acA zAc))
  generalize V2.setRow g4 (acA zAc) = V9 at *
  go_upto_region 3 with fail
  refine wl <| gz1 (.agg (acA zAc)) <| gzs rfl (hst) <| gz1 (.int .i64 13) <| wn ?_
  simp only [pu]
  go_wp2_with fail
  exact bodyPost_ret (results_c (p := 4) (q := 5) rfl (by kernel_rfl) (load_acb hX9) rfl) rfl ⟨rfl, HB9.out⟩
 ·skip
  go_upto_region 2 with fail
  refine wl <| gz3 (.bool true) (.bool false) (.bool false) <| wn ?_
  simp only [pu]
  by_cases hs : y.2.2 = t.sq
  ·skip
   go_upto_region 4 with fail
   refine wl <| gz1 (.pointer (some ⟨g6, 2, none⟩)) <| gzl rfl ⟨g6, 2, none⟩ (.int .u64 y.2.2) (HX6.out.load (i := 2) rfl (by kernel_rfl)) <| gz1 (.pointer (some ⟨g3, 1, none⟩)) <| gzl rfl ⟨g3, 1, none⟩ (.int .u64 t.sq) (HX32.out.load (i := 1) rfl (by kernel_rfl)) <|
    gzb (neq_u6 rfl y.2.2 t.sq (decide_eq_true hs)) <| gz1 (.bool false) <| wn ?_
   simp only [pu]
   by_cases hm : t.sq = 18446744073709551615
   ·skip
    go_upto_region 6 with fail
    refine wl <| gz1 (.pointer (some ⟨g6, 2, none⟩)) <| gzl rfl ⟨g6, 2, none⟩ (.int .u64 y.2.2) (HX6.out.load (i := 2) rfl (by kernel_rfl)) <| gzb (eql_u6 rfl y.2.2 18446744073709551615 (decide_eq_true (hs.trans hm))) <| gz1 (.bool true) <|
     wpList_nil ?_
    simp only [pu]
    obtain rfl : r = (zAc, 6) := by rw [HR.out, if_neg (by decide), if_neg (fun q => q hs), if_pos hm]
    obtain ⟨hst, hX9⟩ := store_ac (y := zAc) HX42
    have HB9 := Lib.hid (belowRow HB2.out HG.out (acA zAc))
    generalize V2.setRow g4 (acA zAc) = V9 at *
    go_upto_region 7 with fail
    refine wl <| gz1 (.agg (acA zAc)) <| gzs rfl (hst) <| gz1 (.int .i64 6) <| wn ?_
    simp only [pu]
    go_wp2_with fail
    exact bodyPost_ret (results_c (p := 4) (q := 5) rfl (by kernel_rfl) (load_acb hX9) rfl) rfl ⟨rfl, HB9.out⟩
   ·skip
    go_upto_region 6 with fail
    refine wl <| gz1 (.pointer (some ⟨g6, 2, none⟩)) <| gzl rfl ⟨g6, 2, none⟩ (.int .u64 y.2.2) (HX6.out.load (i := 2) rfl (by kernel_rfl)) <| gzb (eql_u6 rfl y.2.2 18446744073709551615 (decide_eq_false (fun q => hm (hs.symm.trans q)))) <|
     gz1 (.bool false) <| wn ?_
    simp only [pu]
    obtain rfl : r = (y, 0) := by rw [HR.out, if_neg (by decide), if_neg (fun q => q hs), if_neg hm]
    obtain ⟨hst, hX9⟩ := store_ac (y := y) HX42
    have HB9 := Lib.hid (belowRow HB2.out HG.out (acA y))
    generalize V2.setRow g4 (acA y) = V9 at *
    go_upto_region 8 with fail
    refine wl <| gzl rfl ⟨g6, 0, none⟩ (.agg (acA y)) (load_acb HX6.out) <| gzs rfl (hst) <| gz1 (.int .i64 0) <| wn ?_
    simp only [pu]
    go_wp2_with fail
    exact bodyPost_ret (results_c (p := 4) (q := 5) rfl (by kernel_rfl) (load_acb hX9) rfl) rfl ⟨rfl, HB9.out⟩
  ·skip
   go_upto_region 4 with fail
   refine wl <| gz1 (.pointer (some ⟨g6, 2, none⟩)) <| gzl rfl ⟨g6, 2, none⟩ (.int .u64 y.2.2) (HX6.out.load (i := 2) rfl (by kernel_rfl)) <| gz1 (.pointer (some ⟨g3, 1, none⟩)) <| gzl rfl ⟨g3, 1, none⟩ (.int .u64 t.sq) (HX32.out.load (i := 1) rfl (by kernel_rfl)) <|
    gzb (neq_u6 rfl y.2.2 t.sq (decide_eq_false hs)) <| gz1 (.bool true) <| wn ?_
   simp only [pu]
   obtain rfl : r = (zAc, 14) := by rw [HR.out, if_neg (by decide), if_pos hs]
   obtain ⟨hst, hX9⟩ := store_ac (y := zAc) HX42
   have HB9 := Lib.hid (belowRow HB2.out HG.out (acA zAc))
   generalize V2.setRow g4 (acA zAc) = V9 at *
   go_upto_region 5 with fail
   refine wl <| gz1 (.agg (acA zAc)) <| gzs rfl (hst) <| gz1 (.int .i64 14) <| wn ?_
   simp only [pu]
   go_wp2_with fail
   exact bodyPost_ret (results_c (p := 4) (q := 5) rfl (by kernel_rfl) (load_acb hX9) rfl) rfl ⟨rfl, HB9.out⟩
set_option maxRecDepth 100000 in
set_option maxHeartbeats 8000000 in
theorem q_fee (t : Txd) (price size : Int) (ta : Option Addr) (tk : Nat) (w : World) (hg : W64 t.gas) (hp : W64 price) :
  Calls Try.prog 32 #[.agg (txA t ta tk), .int .u64 price, .int .i64 size] w fun e w' => e = .returned (.int .i64 (feeX t price size)) ∧ Below w.heap.size w w' := by
 have hb0 : Below w.heap.size w (w.alloc (.cells (txA t ta tk) 32)) := (Below.refl _ w).alloc (Nat.le_refl _) _
 have hX0 : Bx (w.alloc (.cells (txA t ta tk) 32)) w.heap.size (txA t ta tk) 32 := heap_alloc_last w _
 have CU := fun V => Mo.gas_used size t.tr.length V
 have CN := fun V => Mo.gas_need t.gas price V hg hp
 obtain ⟨r, hr⟩ : ∃ r, feeX t price size = r := ⟨_, rfl⟩
 have hr0 := hr
 unfold feeX at hr0
 generalize usedV size t.tr.length = us at *
 generalize mulV t.gas price = mv at *
 generalize mulB t.gas price = mb at *
 have HR := Lib.hid hr0.symm
 rw [hr]
 clear hr hr0
 go_enter Try.func32, Try.ntmps32
 go_upto_region 1 with fail
 change Code.wp _ _ _ _ (w.alloc (.cells (txA t ta tk) 32))
 generalize w.alloc (.cells (txA t ta tk) 32) = W at *
 obtain ⟨g3, hg3⟩ : ∃ g3, w.heap.size = g3 := ⟨_, rfl⟩
 have HB0 := Lib.hid hb0
 rw [hg3] at hX0
 simp only [hg3]
 have HX0 := Lib.hid hX0
 have HXd : Hid (Bx W.drew g3 (txA t ta tk) 32) := Lib.hid hX0
 clear hb0 hg3 hX0
 by_cases hga : t.gas < us
 ·skip
  go_upto_region 1 with fail
  refine wp_region_class (C := fun U => U = W.drew) (by kernel_rfl) (by kernel_rfl) (rfl) ?_
  refine gy (.pointer (some ⟨g3, 2, none⟩)) <| gyl rfl ⟨g3, 2, none⟩ (.int .u64 t.gas) (fun U hU => by rw [hU]; exact HXd.out.load (i := 2) rfl (by kernel_rfl)) <| gy (.int .i64 size) <| gy (.pointer (some ⟨g3, 5, none⟩)) <|
    gyl rfl ⟨g3, 5, none⟩ (.slice ta t.tr.length tk) (fun U hU => by rw [hU]; exact HXd.out.load (i := 5) rfl (by kernel_rfl)) <| gy (.int .i64 t.tr.length) ?_
  simp only [pu]
  refine gq_call (by kernel_rfl) (some 15) rfl 55 #[.int .i64 size, .int .i64 t.tr.length] (.int .u64 us) (fun U hU => by kernel_rfl) (fun U hU => (CU U).mono fun e w2 q => ⟨q.1, q.2 ▸ hU⟩) ?_
  simp only [pu]
  refine gyv (.bool true) (fun U hU => lss_u6 rfl t.gas us (decide_eq_true hga) (by kernel_rfl) (by kernel_rfl) _) ?_
  simp only [pu]
  apply wpQuiet_nil
  intro U hU
  have HB2 : Hid (Below w.heap.size w U) := Lib.hid (by rw [hU]; exact HB0.out.drew)
  have HX3 : Hid (Bx U g3 (txA t ta tk) 32) := Lib.hid (by rw [hU]; exact HXd.out)
  clear hU
  obtain rfl : r = 15 := by rw [HR.out, if_pos hga]
  go_upto_region 2 with fail
  refine wl <| gz1 (.int .i64 15) <| wn ?_
  simp only [pu]
  go_wp2_with fail
  go_ret
  exact ⟨rfl, HB2.out⟩
 ·skip
  go_upto_region 1 with fail
  refine wp_region_class (C := fun U => U = W.drew) (by kernel_rfl) (by kernel_rfl) (rfl) ?_
  refine gy (.pointer (some ⟨g3, 2, none⟩)) <| gyl rfl ⟨g3, 2, none⟩ (.int .u64 t.gas) (fun U hU => by rw [hU]; exact HXd.out.load (i := 2) rfl (by kernel_rfl)) <| gy (.int .i64 size) <| gy (.pointer (some ⟨g3, 5, none⟩)) <|
    gyl rfl ⟨g3, 5, none⟩ (.slice ta t.tr.length tk) (fun U hU => by rw [hU]; exact HXd.out.load (i := 5) rfl (by kernel_rfl)) <| gy (.int .i64 t.tr.length) ?_
  simp only [pu]
  refine gq_call (by kernel_rfl) (some 15) rfl 55 #[.int .i64 size, .int .i64 t.tr.length] (.int .u64 us) (fun U hU => by kernel_rfl) (fun U hU => (CU U).mono fun e w2 q => ⟨q.1, q.2 ▸ hU⟩) ?_
  simp only [pu]
  refine gyv (.bool false) (fun U hU => lss_u6 rfl t.gas us (decide_eq_false hga) (by kernel_rfl) (by kernel_rfl) _) ?_
  simp only [pu]
  apply wpQuiet_nil
  intro U hU
  have HB2 : Hid (Below w.heap.size w U) := Lib.hid (by rw [hU]; exact HB0.out.drew)
  have HX3 : Hid (Bx U g3 (txA t ta tk) 32) := Lib.hid (by rw [hU]; exact HXd.out)
  clear hU
  go_upto_region 3 with fail
  refine wl <| gz1 (.pointer (some ⟨g3, 2, none⟩)) <| gzl rfl ⟨g3, 2, none⟩ (.int .u64 t.gas) (HX3.out.load (i := 2) rfl (by kernel_rfl)) <| gz1 (.int .u64 price) <| gzc (.tuple #[.int .u64 mv, .bool mb]) (fun w' => U = w') (CN U) (fun V9 hV9 => ?_)
  subst hV9
  simp only [pu]
  refine gz5 (.tuple #[.int .u64 mv, .bool mb]) (.int .u64 mv) (.bool mb) (.int .u64 mv) (.bool mb) <| wn ?_
  simp only [pu]
  cases mb
  ·skip
   go_upto_region 4 with fail
   refine wl <| gz3 (.bool false) (.bool true) (.bool true) <| wn ?_
   simp only [pu]
   obtain rfl : r = 6 := by rw [HR.out, if_neg hga]; rfl
   go_upto_region 5 with fail
   refine wl <| gz1 (.int .i64 6) <| wn ?_
   simp only [pu]
   go_wp2_with fail
   go_ret
   exact ⟨rfl, HB2.out⟩
  ·skip
   go_upto_region 4 with fail
   refine wl <| gz3 (.bool true) (.bool false) (.bool false) <| wn ?_
   simp only [pu]
   by_cases hfe : t.fee < mv
   ·skip
    go_upto_region 6 with fail
    refine wl <| gz1 (.pointer (some ⟨g3, 3, none⟩)) <| gzl rfl ⟨g3, 3, none⟩ (.int .u64 t.fee) (HX3.out.load (i := 3) rfl (by kernel_rfl)) <| gz1 (.int .u64 mv) <| gzb (lss_u6 rfl t.fee mv (decide_eq_true hfe)) <| gz1 (.bool true) <|
     wpList_nil ?_
    simp only [pu]
    obtain rfl : r = 16 := by rw [HR.out, if_neg hga, if_neg (by decide), if_pos hfe]
    go_upto_region 7 with fail
    refine wl <| gz1 (.int .i64 16) <| wn ?_
    simp only [pu]
    go_wp2_with fail
    go_ret
    exact ⟨rfl, HB2.out⟩
   ·skip
    go_upto_region 6 with fail
    refine wl <| gz1 (.pointer (some ⟨g3, 3, none⟩)) <| gzl rfl ⟨g3, 3, none⟩ (.int .u64 t.fee) (HX3.out.load (i := 3) rfl (by kernel_rfl)) <| gz1 (.int .u64 mv) <| gzb (lss_u6 rfl t.fee mv (decide_eq_false hfe)) <| gz1 (.bool false) <|
     wpList_nil ?_
    simp only [pu]
    obtain rfl : r = 0 := by rw [HR.out, if_neg hga, if_neg (by decide), if_neg hfe]
    go_upto_region 8 with fail
    refine wl <| gz1 (.int .i64 0) <| wn ?_
    simp only [pu]
    go_wp2_with fail
    go_ret
    exact ⟨rfl, HB2.out⟩
end Go.Proofs.Ytglglhcnofbagaa.Lg
namespace Go.Proofs.Ytglglhcnofbagaa.Lg
attribute [local irreducible] wpList wpQuiet
set_option maxRecDepth 100000
open Mo (usedV prioV mulB mulV)
open Go.RowKit
set_option linter.unusedSimpArgs false
set_option linter.unusedVariables false

theorem four_boxes (w : World) (x y z u : Array Value) (t1 t2 t3 t4 : Nat) : Below w.heap.size w ((((w.alloc (.cells x t1)).alloc (.cells y t2)).alloc (.cells z t3)).alloc (.cells u t4)) ∧ Bx ((((w.alloc (.cells x t1)).alloc (.cells y t2)).alloc (.cells z t3)).alloc (.cells u t4)) w.heap.size x t1 ∧ Bx ((((w.alloc (.cells x t1)).alloc (.cells y t2)).alloc (.cells z t3)).alloc (.cells u t4)) (w.heap.size + 1) y t2 ∧ Bx ((((w.alloc (.cells x t1)).alloc (.cells y t2)).alloc (.cells z t3)).alloc (.cells u t4)) (w.heap.size + 2) z t3 ∧ Bx ((((w.alloc (.cells x t1)).alloc (.cells y t2)).alloc (.cells z t3)).alloc (.cells u t4)) (w.heap.size + 3) u t4 := by
 obtain ⟨h1, h2, h3, h4⟩ := three_boxes w x y z t1 t2 t3
 have hs : (((w.alloc (.cells x t1)).alloc (.cells y t2)).alloc (.cells z t3)).heap.size = w.heap.size + 3 := by simp
 have hz : Bx ((((w.alloc (.cells x t1)).alloc (.cells y t2)).alloc (.cells z t3)).alloc (.cells u t4)) (((w.alloc (.cells x t1)).alloc (.cells y t2)).alloc (.cells z t3)).heap.size u t4 := heap_alloc_last _ _
 generalize ((w.alloc (.cells x t1)).alloc (.cells y t2)).alloc (.cells z t3) = W at *
 have hb : Below W.heap.size W (W.alloc (.cells u t4)) := (Below.refl _ _).alloc (Nat.le_refl _) _
 rw [hs] at hz
 exact ⟨h1.trans (hb.mono h1.size), h2.below h2.lt hb, h3.below h3.lt hb, h4.below h4.lt hb, hz⟩
theorem row_lt {w : World} {B : Nat} {v : Value} {A : List Ac} (h : RowA w B v A) : ∀ q, v.ownBlock = some q → B ≤ q ∧ q < w.heap.size := fun q hq => by
 rcases h.2 with ⟨rfl, -⟩ | ⟨g, cap, cur, rfl, hB, hg, -⟩
 ·cases hq
 ·obtain rfl : g = q := Option.some.inj hq
  refine ⟨hB, ?_⟩
  rcases Nat.lt_or_ge g w.heap.size with h1 | h1
  ·exact h1
  ·rw [Array.getElem?_eq_none h1] at hg; cases hg
theorem row_keep {w w' : World} {B g : Nat} {v : Value} {A : List Ac} (h : RowA w B v A) (hn : ∀ q, v.ownBlock = some q → q ≠ g) (hb : But g w w') : RowA w' B v A :=
 own_eq h fun q hq => hb.2 q (row_lt h q hq).2 (hn q hq)
/-- What is asked of a ledger from which is taken. -/
structure TkQ (A : List Ac) (c price : Int) (t : Txd) : Prop where
 q : FaQ A c price t
 g : (getX A t.snd).2 = true
 s : (getX A t.snd).1.2.2 = t.sq
 m : ¬ t.sq = 18446744073709551615
theorem TkQ.ld {A : List Ac} {c price : Int} {t : Txd} (h : TkQ A c price t) : LdQ A c := ⟨h.q.v, h.q.w, h.q.cw⟩
theorem TkQ.xz {A : List Ac} {c price : Int} {t : Txd} (h : TkQ A c price t) : (getX A t.snd).1.1.size ≤ 140737488355328 := by
 obtain ⟨h1, h2, h3⟩ := get_name h.g
 rw [h2]
 exact h.ld.z _ (aca_mem h1)
theorem TkQ.dn {A : List Ac} {c price : Int} {t : Txd} (h : TkQ A c price t) (h4 : cosB t = true) (h5 : ¬ (getX A t.snd).1.2.1 < cosV t) : DnQ A c t := h.q.dn h.g h.s h.m h4 h5
theorem TkQ.bw {A : List Ac} {c price : Int} {t : Txd} (h : TkQ A c price t) : W64 (getX A t.snd).1.2.1 := by
 obtain ⟨h1, h2, h3⟩ := get_name h.g
 rw [h2]
 exact (h.q.w _ h1).1
theorem cosV_w (t : Txd) (hf : W64 t.fee) (ha : ∀ x, x ∈ t.tr → W64 x.2) : W64 (cosV t) := by
 by_cases h : cosB t = true
 ·obtain ⟨h1, h2⟩ := cos_yes h
  have h3 := cos_all t
  have h4 := (amJ_le ha t.tr.length).1
  have := hf.1
  exact ⟨by omega, by omega⟩
 ·rw [cos_no (by simpa using h)]; exact w64_0
set_option maxRecDepth 100000 in
set_option maxHeartbeats 8000000 in
theorem q_take (A : List Ac) (c price : Int) (t : Txd) (la ta : Option Addr) (lk tk : Nat) (w : World) (hL : Cs w la (acc A)) (hlk : A.length ≤ lk) (hT : Cs w ta (tfc t.tr)) (hQ : TkQ A c price t) :
  Calls Try.prog 33 #[.agg (lgA la A.length lk c), .agg (acA (getX A t.snd).1), .agg (txA t ta tk)] w (LedO w (takX A c t)) := by
 obtain ⟨hb0, hX3, hX4, hX5, hX6⟩ := four_boxes w (lgA la A.length lk c) (acA (getX A t.snd).1) (txA t ta tk) (lgA none 0 0 0) 27 24 32 27
 have HAW := Lib.hid hL
 have hA := hL.below hb0
 have CC := fun V h => q_cost t ta tk V h (by have := hQ.q.m; omega) hQ.q.f hQ.q.a
 have hT0 := hT.below hb0
 have HYW := Lib.hid (fun h4 h5 => (hQ.dn h4 h5).yw)
 have CS := fun V => money_sub (getX A t.snd).1.2.1 (cosV t) V hQ.bw (cosV_w t hQ.q.f hQ.q.a)
 have HST := Lib.hid (fun (h4 : cosB t = true) (h5 : ¬ (getX A t.snd).1.2.1 < cosV t) => set_take hQ.q.v hQ.g (hQ.dn h4 h5).c0.1)
 have HSE := Lib.hid (fun (x : Ac) V (h : Cs V la (acc A)) (hx : W64 x.2.1 ∧ W64 x.2.2) (hz : x.1 = (getX A t.snd).1.1) => q_set la lk A c x V h hlk (by have := hQ.ld.n; omega) hQ.q.cw hQ.q.w hQ.ld.z hx (by rw [hz]; exact hQ.xz))
 obtain ⟨r, hr⟩ : ∃ r, takX A c t = r := ⟨_, rfl⟩
 have hr0 := hr
 unfold takX at hr0
 have HR := Lib.hid hr0.symm
 rw [hr]
 obtain ⟨y, hy⟩ : ∃ y, (getX A t.snd).1 = y := ⟨_, rfl⟩
 rw [hy] at HYW CS HST HSE HR hb0 hX3 hX4 hX5 hX6 hA hT0 ⊢
 generalize subA A t = SA at *
 generalize cosV t = cv at *
 generalize cosB t = cb at *
 clear hL hT hQ hr hr0 hy
 go_enter Try.func33, Try.ntmps33
 go_upto_region 1 with fail
 change Code.wp _ _ _ _ ((((w.alloc (.cells (lgA la A.length lk c) 27)).alloc (.cells (acA y) 24)).alloc (.cells (txA t ta tk) 32)).alloc (.cells (lgA none 0 0 0) 27))
 generalize (((w.alloc (.cells (lgA la A.length lk c) 27)).alloc (.cells (acA y) 24)).alloc (.cells (txA t ta tk) 32)).alloc (.cells (lgA none 0 0 0) 27) = W at *
 obtain ⟨g3, hg3⟩ : ∃ g3, w.heap.size = g3 := ⟨_, rfl⟩
 obtain ⟨g4, hg4⟩ : ∃ g4, g3 + 1 = g4 := ⟨_, rfl⟩
 obtain ⟨g5, hg5⟩ : ∃ g5, g4 + 1 = g5 := ⟨_, rfl⟩
 obtain ⟨g6, hg6⟩ : ∃ g6, g5 + 1 = g6 := ⟨_, rfl⟩
 have HB0 := Lib.hid hb0
 rw [show w.heap.size + 3 = g6 by omega] at hX6
 rw [show w.heap.size + 2 = g5 by omega] at hX5
 rw [show w.heap.size + 1 = g4 by omega] at hX4
 have HG : Hid (w.heap.size ≤ g6 ∧ w.heap.size ≤ g4 ∧ g3 ≠ g4 ∧ g6 ≠ g4 ∧ g6 < W.heap.size) := Lib.hid ⟨by omega, by omega, by omega, by omega, hX6.lt⟩
 rw [hg3] at hX3
 simp only [hg3]
 simp only [hg4]
 simp only [hg5]
 simp only [hg6]
 have HX3 := Lib.hid hX3
 have HX4 := Lib.hid hX4
 have HX5 := Lib.hid hX5
 have HX6 := Lib.hid hX6
 have HA := Lib.hid hA
 have CCW := CC W hT0
 clear hb0 hX3 hX4 hX5 hX6 hA hT0 hg3 hg4 hg5 hg6 CC
 refine wl <| gzl rfl ⟨g5, 0, none⟩ (.agg (txA t ta tk)) (load_txb HX5.out) <| gzc (.tuple #[.int .u64 cv, .bool cb]) (fun w' => Below W.heap.size W w') (CCW) (fun W1 hW1 => ?_)
 simp only [pu]
 refine gz5 (.tuple #[.int .u64 cv, .bool cb]) (.int .u64 cv) (.bool cb) (.int .u64 cv) (.bool cb) <| wn ?_
 simp only [pu]
 have HB1 := Lib.hid (HB0.out.trans (hW1.mono HB0.out.size))
 have HS1 : Hid (W.heap.size ≤ W1.heap.size) := Lib.hid hW1.size
 have HX31 := Lib.hid (HX3.out.below HX3.out.lt hW1)
 have HX41 := Lib.hid (HX4.out.below HX4.out.lt hW1)
 have HX61 := Lib.hid (HX6.out.below HX6.out.lt hW1)
 have HA1 := Lib.hid (HA.out.below hW1)
 clear CCW hW1 HX3 HX4 HX5 HX6 HA
 cases cb
 ·skip
  go_upto_region 2 with fail
  refine wl <| gz2 (.bool false) (.bool true) <| wn ?_
  simp only [pu]
  obtain rfl : r = ([], 0, 6) := by rw [HR.out]; rfl
  obtain ⟨hst, hX9⟩ := store_lg (a' := none) (n' := 0) (k' := 0) (c' := 0) HX61.out
  have hB9 := belowRow HB1.out HG.out.1 (lgA none 0 0 0)
  have HE := Lib.hid (LedO.err (e := 6) hB9)
  generalize W1.setRow g6 (lgA none 0 0 0) = V9 at *
  clear hB9
  go_upto_region 3 with fail
  refine wl <| gz1 (.agg (lgA none 0 0 0)) <| gzs rfl (hst) <| gz1 (.int .i64 6) <| wn ?_
  simp only [pu]
  go_wp2_with fail
  exact bodyPost_ret (results_c (p := 6) (q := 7) rfl (by kernel_rfl) (load_lg hX9) rfl) rfl HE.out
 ·skip
  go_upto_region 2 with fail
  refine wl <| gz2 (.bool true) (.bool false) <| wn ?_
  simp only [pu]
  have CSW := CS W1
  by_cases hfu : y.2.1 < cv
  ·skip
   rw [show subV y.2.1 cv = 0 from if_neg (by omega), show subB y.2.1 cv = false from decide_eq_false (by omega)] at CSW
   go_upto_region 4 with fail
   refine wl <| gz1 (.pointer (some ⟨g4, 1, none⟩)) <| gzl rfl ⟨g4, 1, none⟩ (.int .u64 y.2.1) (HX41.out.load (i := 1) rfl (by kernel_rfl)) <| gz1 (.int .u64 cv) <| gzc (.tuple #[.int .u64 (0), .bool false]) (fun w' => W1 = w') (CSW) (fun V9 hV9 => ?_)
   subst hV9
   simp only [pu]
   refine gz5 (.tuple #[.int .u64 (0), .bool false]) (.int .u64 (0)) (.bool false) (.int .u64 (0)) (.bool false) <| wn ?_
   simp only [pu]
   go_upto_region 5 with fail
   refine wl <| gz2 (.bool false) (.bool true) <| wn ?_
   simp only [pu]
   obtain rfl : r = ([], 0, 17) := by rw [HR.out, if_neg (by decide), if_pos hfu]
   obtain ⟨hst, hX9⟩ := store_lg (a' := none) (n' := 0) (k' := 0) (c' := 0) HX61.out
   have hB9 := belowRow HB1.out HG.out.1 (lgA none 0 0 0)
   have HE := Lib.hid (LedO.err (e := 17) hB9)
   generalize W1.setRow g6 (lgA none 0 0 0) = V9 at *
   clear hB9
   go_upto_region 6 with fail
   refine wl <| gz1 (.agg (lgA none 0 0 0)) <| gzs rfl (hst) <| gz1 (.int .i64 17) <| wn ?_
   simp only [pu]
   go_wp2_with fail
   exact bodyPost_ret (results_c (p := 6) (q := 7) rfl (by kernel_rfl) (load_lg hX9) rfl) rfl HE.out
  ·skip
   rw [show subV y.2.1 cv = y.2.1 - cv from if_pos (by omega), show subB y.2.1 cv = true from decide_eq_true (by omega)] at CSW
   go_upto_region 4 with fail
   refine wl <| gz1 (.pointer (some ⟨g4, 1, none⟩)) <| gzl rfl ⟨g4, 1, none⟩ (.int .u64 y.2.1) (HX41.out.load (i := 1) rfl (by kernel_rfl)) <| gz1 (.int .u64 cv) <| gzc (.tuple #[.int .u64 (y.2.1 - cv), .bool true]) (fun w' => W1 = w') (CSW) (fun V9 hV9 => ?_)
   subst hV9
   simp only [pu]
   refine gz5 (.tuple #[.int .u64 (y.2.1 - cv), .bool true]) (.int .u64 (y.2.1 - cv)) (.bool true) (.int .u64 (y.2.1 - cv)) (.bool true) <| wn ?_
   simp only [pu]
   go_upto_region 5 with fail
   refine wl <| gz2 (.bool true) (.bool false) <| wn ?_
   simp only [pu]
   obtain ⟨hy1, hy2⟩ := HYW.out rfl hfu
   obtain ⟨V2, hst2, hX42, hb2, hbt2⟩ := st_cell (i := 1) (ty := 22) (v := .int .u64 (y.2.1 - cv)) (cs' := acA (y.1, y.2.1 - cv, y.2.2)) HX41.out HB1.out HG.out.2.1 (by show 1 < 3; decide) rfl (by kernel_rfl) rfl
   obtain ⟨V3, hst3, hX43, hb3, hbt3⟩ := st_cell (i := 2) (ty := 22) (v := .int .u64 (y.2.2 + 1)) (cs' := acA (y.1, y.2.1 - cv, y.2.2 + 1)) hX42 hb2 HG.out.2.1 (by show 2 < 3; decide) rfl (by kernel_rfl) rfl
   have hX33 := (HX31.out.but hbt2 HG.out.2.2.1).but hbt3 HG.out.2.2.1
   have hX63 := (HX61.out.but hbt2 HG.out.2.2.2.1).but hbt3 HG.out.2.2.2.1
   clear CSW CS
   go_upto_region 7 with fail
   refine wl <| gz2 (.int .u64 (y.2.1 - cv)) (.pointer (some ⟨g4, 1, none⟩)) <| gzs rfl (hst2) <| wn ?_
   simp only [pu]
   go_upto_region 8 with fail
   refine wl <| gz1 (.pointer (some ⟨g4, 2, none⟩)) <| gzl rfl ⟨g4, 2, none⟩ (.int .u64 y.2.2) (hX42.load (i := 2) rfl (by kernel_rfl)) <| gzw (.int .u64 (y.2.2 + 1)) (add_ub rfl y.2.2 1 hy2) <| gz1 (.pointer (some ⟨g4, 2, none⟩)) <| gzs rfl (hst3) <|
    wpList_nil ?_
   simp only [pu]
   obtain rfl : r = (SA, c, 0) := by rw [HR.out, if_neg (by decide), if_neg hfu]
   have hA3 : Cs V3 la (acc A) := HAW.out.below hb3
   have CT := HSE.out (y.1, y.2.1 - cv, y.2.2 + 1) V3 hA3 ⟨hy1, hy2⟩ rfl
   rw [HST.out rfl hfu] at CT
   clear HST HSE HYW
   go_upto_region 9 with fail
   refine wl <| gzl rfl ⟨g3, 0, none⟩ (.agg (lgA la A.length lk c)) (load_lg hX33) <| gzl rfl ⟨g4, 0, none⟩ (.agg (acA (y.1, y.2.1 - cv, y.2.2 + 1))) (load_acb hX43) <|
    gze (fun v w' => ∃ ad kk, v = .tuple #[.agg (lgA ad SA.length kk c), .int .i64 0] ∧ RowA w' V3.heap.size (.slice ad SA.length kk) SA ∧ Below V3.heap.size V3 w') (CT.mono fun e w' q => by obtain ⟨ad, kk, h1, h2, h3⟩ := q; exact ⟨_, h1, ad, kk, rfl, h2, h3⟩) (fun vv V4 hq => ?_)
   obtain ⟨ad, kk, rfl, hr4, hb4⟩ := hq
   obtain ⟨hst5, hX9⟩ := store_lg (a' := ad) (n' := SA.length) (k' := kk) (c' := c) (hX63.below hX63.lt hb4)
   have hB9 := belowRow (hb3.trans (hb4.mono hb3.size)) HG.out.1 (lgA ad SA.length kk c)
   have hr5 := own_but hr4 (But.setRow (g := g6) V4 (lgA ad SA.length kk c)) hX63.lt
   have HE : Hid (LedO w (SA, c, 0) (.returned (.tuple #[.agg (lgA ad SA.length kk c), .int .i64 0])) (V4.setRow g6 (lgA ad SA.length kk c))) := Lib.hid ⟨ad, kk, rfl, own_base hr5 hb3.size, hB9⟩
   generalize V4.setRow g6 (lgA ad SA.length kk c) = V5 at *
   clear hr4 hb4 hB9 hr5
   simp only [pu]
   refine gz2 (.agg (lgA ad SA.length kk c)) (.int .i64 0) <| gzs rfl (hst5) <| gz1 (.int .i64 0) <| wn ?_
   simp only [pu]
   go_wp2_with fail
   exact bodyPost_ret (results_c (p := 6) (q := 7) rfl (by kernel_rfl) (load_lg hX9) rfl) rfl HE.out
/-- A ledger that is handed back with an error, in a row from the base on. -/
def LedB (B : Nat) (w : World) (r : List Ac × Int × Int) (e : Ending) (w' : World) : Prop := ∃ ad k, e = .returned (.tuple #[.agg (lgA ad r.1.length k r.2.1), .int .i64 r.2.2]) ∧ RowA w' B (.slice ad r.1.length k) r.1 ∧ Below w.heap.size w w'
/-- What is kept in give's loop. -/
structure GvL (w : World) (g2 g4 Bs : Nat) (A : List Ac) (c : Int) (t : Txd) (j : Nat) (V : World) (B : List Ac) (ad : Option Addr) (k : Nat) : Prop where
 gj : GvJ A t j B
 v : valE B c = 0
 bx2 : Bx V g2 (lgA ad B.length k c) 27
 bx4 : Bx V g4 (lgA none 0 0 0) 27
 row : RowA V Bs (.slice ad B.length k) B
 bel : Below w.heap.size w V
 ne : ∀ q, (Value.slice ad B.length k).ownBlock = some q → q ≠ g2 ∧ q ≠ g4
theorem giv_q {A B : List Ac} {c : Int} {t : Txd} {j : Nat} (h : DnQ A c t) (hJ : GvJ A t j B) (hj : j < t.tr.length) : c + (tot (bals B) + (tfa t.tr j).2) < 18446744073709551616 := by
 have h1 := hJ.s
 have h2 := h.tt
 have h3 := amJ_succ hj
 have h4 := (amJ_le h.a (j + 1)).2
 have h5 := cos_all t
 have h6 := h.f.1
 omega
theorem givX_no {A : List Ac} {c : Int} {t : Txd} (h : 256 < (doneL A t).length) : givX A c t = ([], 0, 3) := if_pos h
theorem givX_yes {A : List Ac} {c : Int} {t : Txd} (h : ¬ 256 < (doneL A t).length) : givX A c t = (doneL A t, c, 0) := if_neg h
set_option maxRecDepth 100000 in
set_option maxHeartbeats 8000000 in
theorem q_give (A : List Ac) (c : Int) (t : Txd) (la ta : Option Addr) (lk tk Bs : Nat) (w : World) (hL : RowA w Bs (.slice la (subA A t).length lk) (subA A t)) (hBs : Bs ≤ w.heap.size) (hT : Cs w ta (tfc t.tr)) (hQ : DnQ A c t) (hv : valE A c = 0) (hnm : ∀ x, x ∈ t.tr → isName (nums x.1) = true) :
  Calls Try.prog 34 #[.agg (lgA la (subA A t).length lk c), .slice ta t.tr.length tk] w (LedB Bs w (givX A c t)) := by
 obtain ⟨hb0, hX2, hX4⟩ := two_boxes w (lgA la (subA A t).length lk c) (lgA none 0 0 0) 27 27
 have HT := Lib.hid hT
 have HQ := Lib.hid hQ
 have HNM := Lib.hid hnm
 have HNL : Hid (A.length ≤ 256 ∧ t.tr.length ≤ 16) := Lib.hid ⟨hQ.n, hQ.m⟩
 have hgl : GvL w w.heap.size (w.heap.size + 1) Bs A c t 0 ((w.alloc (.cells (lgA la (subA A t).length lk c) 27)).alloc (.cells (lgA none 0 0 0) 27)) (subA A t) la lk := ⟨hQ.j0, sub_val hv hQ.g hQ.c0.1, hX2, hX4, own_below hL hb0, hb0, fun q hq => by have := (row_lt hL q hq).2; omega⟩
 obtain ⟨SA, hSA⟩ : ∃ SA, subA A t = SA := ⟨_, rfl⟩
 rw [hSA] at hgl hb0 hX2 hX4 ⊢
 clear hL hT hQ hv hnm hSA
 go_enter Try.func34, Try.ntmps34
 go_upto_region 1 with fail
 change Code.wp _ _ _ _ ((w.alloc (.cells (lgA la SA.length lk c) 27)).alloc (.cells (lgA none 0 0 0) 27))
 generalize (w.alloc (.cells (lgA la SA.length lk c) 27)).alloc (.cells (lgA none 0 0 0) 27) = W at *
 obtain ⟨g2, hg2⟩ : ∃ g2, w.heap.size = g2 := ⟨_, rfl⟩
 obtain ⟨g4, hg4⟩ : ∃ g4, g2 + 1 = g4 := ⟨_, rfl⟩
 rw [show w.heap.size + 1 = g4 by omega] at hX4 hgl
 have HG : Hid (w.heap.size ≤ g2 ∧ w.heap.size ≤ g4 ∧ g2 ≠ g4 ∧ g4 ≠ g2) := Lib.hid (by omega)
 have hgl2 : GvL w g2 g4 Bs A c t 0 W SA la lk := by rw [← hg2]; exact hgl
 simp only [hg2]
 simp only [hg4]
 have HGL := Lib.hid hgl2
 clear hb0 hX2 hX4 hgl hgl2 hg2 hg4
 refine wl <| gz3 (.slice ta t.tr.length tk) (.int .i64 t.tr.length) (.int .i64 0) <| wn ?_
 simp only [pu]
 go_wp2_with fail
 go_loopg [14] t.tr.length (fun gg s14 wx => ∃ (j : Nat) (B : List Ac) (ad : Option Addr) (k : Nat), s14 = .int .i64 j ∧ j ≤ t.tr.length ∧ Hid (GvL w g2 g4 Bs A c t j wx B ad k) ∧ t.tr.length - j = gg)
 case atStart => exact ⟨0, SA, la, lk, rfl, by omega, HGL, by omega⟩
 case round =>
  obtain ⟨j, B, ad, k, rfl, hj, HL, hg⟩ := hrel
  clear HGL
  have hBn : B.length ≤ 256 := (valE_ok HL.out.v).1
  by_cases hlt : j < t.tr.length
  ·skip
   obtain ⟨b, off, rfl, -, hrx⟩ := tf_range (HT.out.below HL.out.bel) hlt
   have HLD := Lib.hid (load_tf hrx)
   obtain ⟨hJ1, hW1⟩ := HQ.out.js HL.out.gj hlt
   have hq9 := giv_q HQ.out HL.out.gj hlt
   have hxn := HNM.out (tfa t.tr j) (by rw [tfa_get hlt]; exact List.getElem_mem hlt)
   have hdl := giveJ_len A t (j + 1)
   rw [← hJ1.is] at hdl
   generalize tfa t.tr j = x at *
   have HXS : Hid (x.1.size ≤ 140737488355328) := Lib.hid (Nat.le_trans (isn_20 hxn) (by decide))
   have hset := set_give HL.out.v hxn hq9
   have hval := fun h => giv_val HL.out.v hxn hq9 h
   have hga := getA_getX B x.1
   have hw1 := HL.out.gj.w
   have hlz := (LdQ.mk HL.out.v hw1 HQ.out.cw).z
   have hn16 := HNL.out.2
   have HG9 := Lib.hid hg
   obtain ⟨V2, hst, hb2, hbx⟩ := new_tf wr x
   obtain ⟨a5, c5, e5, hcs, hcd⟩ := HL.out.row.cs
   simp only [Value.slice.injEq, true_and] at e5
   obtain ⟨rfl, rfl⟩ := e5
   have CG := q_get ad k B c x.1 V2 (hcs.below hb2) (by omega)
   have hwy : W64 (getX B x.1).1.2.2 := by have := (getA_w hw1 x.1).2.1; rw [hga] at this; exact this
   rw [hga] at hW1
   generalize (getX B x.1).2 = gb at *
   generalize (getX B x.1).1 = y at *
   have hX22 := HL.out.bx2.below HL.out.bx2.lt hb2
   have HVS : Hid (g2 < wr.heap.size ∧ g4 < wr.heap.size) := Lib.hid ⟨HL.out.bx2.lt, HL.out.bx4.lt⟩
   clear hrx hg
   go_upto_region 2 with fail
   refine wl <| gzb (lss_n rfl (j) (t.tr.length) dT) <| wn ?_
   simp only [pu]
   go_upto_region 3 with fail
   refine wl <| gzv (.pointer (some ⟨b, off + j * 2, none⟩)) (idx_tf b off t.tr.length tk j hlt _ _ _ rfl (by kernel_rfl) (by kernel_rfl)) <| gzl rfl ⟨b, off + j * 2, none⟩ (.agg (tfA x)) (HLD.out) ?_
   simp only [pu]
   refine run_to rfl (some 7) rfl (.pointer (some ⟨wr.heap.size, 0, none⟩)) (wr.alloc (.cells (tfA zTf) 35)) (by kernel_rfl) ?_
   simp only [pu]
   refine gzs rfl (hst) <| wn ?_
   obtain ⟨g7, hg7⟩ : ∃ g7, wr.heap.size = g7 := ⟨_, rfl⟩
   have HG7 : Hid (g2 < g7 ∧ g4 < g7) := Lib.hid (by have := HVS.out; omega)
   rw [hg7] at hbx hst ⊢
   clear hst HLD
   go_upto_region 4 with fail
   refine wl <| gzl rfl ⟨g2, 0, none⟩ (.agg (lgA ad B.length k c)) (load_lg hX22) <| gz1 (.pointer (some ⟨g7, 0, none⟩)) <| gzl rfl ⟨g7, 0, none⟩ (.string x.1) (hbx.load (i := 0) rfl (by kernel_rfl)) <| gzc (.tuple #[.agg (acA y), .bool gb]) (fun w' => Below V2.heap.size V2 w') CG (fun V3 hV3 => ?_)
   obtain ⟨V4, hst4, hb4, hbx4⟩ := new_ac V3 y
   simp only [pu]
   refine gz3 (.tuple #[.agg (acA y), .bool gb]) (.agg (acA y)) (.bool gb) ?_
   simp only [pu]
   refine run_to rfl (some 8) rfl (.pointer (some ⟨V3.heap.size, 0, none⟩)) (V3.alloc (.cells (acA zAc) 24)) (by kernel_rfl) ?_
   simp only [pu]
   refine gzs rfl (hst4) <| gz1 (.bool gb) <| wn ?_
   simp only [pu]
   have hb34 := hV3.trans (hb4.mono hV3.size)
   have hb24 := hb2.trans (hb34.mono hb2.size)
   obtain ⟨g8, hg8⟩ : ∃ g8, V3.heap.size = g8 := ⟨_, rfl⟩
   have hG8 : wr.heap.size ≤ g8 := by rw [← hg8]; exact Nat.le_trans hb2.size hV3.size
   have hne : g7 ≠ g8 := by have := hbx.lt; rw [← hg8]; have := hV3.size; omega
   have hne2 : g2 ≠ g8 ∧ g4 ≠ g8 := by have := HVS.out; omega
   have hbx7 := hbx.below hbx.lt hb34
   have hX24 := hX22.below hX22.lt hb34
   rw [hg8] at hbx4 ⊢
   obtain ⟨V5, hst5, hX85, hb5, hbt5⟩ := st_cell (i := 0) (ty := 9) (v := .string x.1) (cs' := acA (x.1, y.2.1, y.2.2)) hbx4 hb24 hG8 (by show 0 < 3; decide) rfl (by kernel_rfl) rfl
   have hbx75 := hbx7.but hbt5 hne
   have hX25 := hX24.but hbt5 hne2.1
   obtain ⟨V6, hst6, hX86, hb6, hbt6⟩ := st_cell (i := 1) (ty := 22) (v := .int .u64 (y.2.1 + x.2)) (cs' := acA (x.1, y.2.1 + x.2, y.2.2)) hX85 hb5 hG8 (by show 1 < 3; decide) rfl (by kernel_rfl) rfl
   have hX26 := hX25.but hbt6 hne2.1
   have hX46 : Bx V6 g4 (lgA none 0 0 0) 27 := ((HL.out.bx4.below HL.out.bx4.lt hb24).but hbt5 hne2.2).but hbt6 hne2.2
   have CS := q_set ad k B c (x.1, y.2.1 + x.2, y.2.2) V6 (hcs.below hb6) hcd (by omega) HQ.out.cw hw1 hlz ⟨hW1, hwy⟩ HXS.out
   rw [hset] at CS
   have HB6 := Lib.hid hb6
   clear CG hV3 hb4 hst4 hb34 hb24 hg8 hbx hbx4 hX22 hX24 hcs
   go_upto_region 5 with fail
   refine wl <| gz1 (.pointer (some ⟨g7, 0, none⟩)) <| gzl rfl ⟨g7, 0, none⟩ (.string x.1) (hbx7.load (i := 0) rfl (by kernel_rfl)) <| gz1 (.pointer (some ⟨g8, 0, none⟩)) <| gzs rfl (hst5) <| wn ?_
   simp only [pu]
   go_upto_region 6 with fail
   refine wl <| gz1 (.pointer (some ⟨g8, 1, none⟩)) <| gzl rfl ⟨g8, 1, none⟩ (.int .u64 y.2.1) (hX85.load (i := 1) rfl (by kernel_rfl)) <| gz1 (.pointer (some ⟨g7, 1, none⟩)) <| gzl rfl ⟨g7, 1, none⟩ (.int .u64 x.2) (hbx75.load (i := 1) rfl (by kernel_rfl)) <|
    gzw (.int .u64 (y.2.1 + x.2)) (add_ub rfl y.2.1 x.2 hW1) <| gz1 (.pointer (some ⟨g8, 1, none⟩)) <| gzs rfl (hst6) <| wn ?_
   simp only [pu]
   clear hst5 hst6 hbx7 hbx75 hX85 hbt5 hbt6 hb5 hX25
   generalize givA B x = B2 at *
   by_cases hfl : 256 < B2.length
   ·skip
    rw [if_pos hfl] at CS
    go_upto_region 7 with fail
    refine wl <| gzl rfl ⟨g2, 0, none⟩ (.agg (lgA ad B.length k c)) (load_lg hX26) <| gzl rfl ⟨g8, 0, none⟩ (.agg (acA (x.1, y.2.1 + x.2, y.2.2))) (load_acb hX86) <|
     gze (fun v w' => ∃ a7 k7, v = .tuple #[.agg (lgA a7 ([] : List Ac).length k7 0), .int .i64 3] ∧ RowA w' V6.heap.size (.slice a7 ([] : List Ac).length k7) [] ∧ Below V6.heap.size V6 w') (CS.mono fun e w' q => by obtain ⟨ad, kk, h1, h2, h3⟩ := q; exact ⟨_, h1, ad, kk, rfl, h2, h3⟩) (fun vv V7 hq => ?_)
    obtain ⟨a7, k7, rfl, hr7, hb7⟩ := hq
    obtain ⟨V8, hst8, hb8, hbx8⟩ := new_lg V7 a7 ([] : List Ac).length k7 0
    simp only [pu]
    refine gz3 (.tuple #[.agg (lgA a7 ([] : List Ac).length k7 0), .int .i64 3]) (.agg (lgA a7 ([] : List Ac).length k7 0)) (.int .i64 3) ?_
    simp only [pu]
    refine run_to rfl (some 10) rfl (.pointer (some ⟨V7.heap.size, 0, none⟩)) (V7.alloc (.cells (lgA none 0 0 0) 27)) (by kernel_rfl) ?_
    simp only [pu]
    refine gzs rfl (hst8) <| gz1 (.int .i64 3) <| wn ?_
    simp only [pu]
    obtain ⟨g10, hg10⟩ : ∃ g10, V7.heap.size = g10 := ⟨_, rfl⟩
    have hb78 := hb7.trans (hb8.mono hb7.size)
    have hX48 := hX46.below hX46.lt hb78
    have hBel := (HL.out.bel.trans (HB6.out.mono HL.out.bel.size)).trans (hb78.mono (HL.out.bel.trans (HB6.out.mono HL.out.bel.size)).size)
    rw [hg10]
    obtain ⟨hst9, hX9⟩ := store_lg (a' := none) (n' := 0) (k' := 0) (c' := 0) hX48
    have hB9 := belowRow hBel HG.out.2.1 (lgA none 0 0 0)
    have hno := givX_no (c := c) (show 256 < (doneL A t).length by omega)
    have HE : Hid (LedB Bs w (givX A c t) (.returned (.tuple #[.agg (lgA none 0 0 0), .int .i64 3])) (V8.setRow g4 (lgA none 0 0 0))) := Lib.hid (by rw [hno]; exact ⟨none, 0, rfl, row_nil _ _, hB9⟩)
    generalize V8.setRow g4 (lgA none 0 0 0) = V9 at *
    clear hB9 hX48 hBel hb78 hno
    go_upto_region 8 with fail
    refine wl <| gz1 (.int .i64 3) <| gzb (neq_e rfl 3 0 (decide_eq_false (by decide))) <| wn ?_
    simp only [pu]
    go_upto_region 9 with fail
    refine wl <| gz2 (.agg (lgA none 0 0 0)) (.int .i64 3) <| gzs rfl (hst9) <| gz1 (.int .i64 3) <| wn ?_
    simp only [pu]
    go_wp2_with fail
    exact bodyPost_ret (results_c (p := 4) (q := 5) rfl (by kernel_rfl) (load_lg hX9) rfl) rfl HE.out
   ·skip
    rw [if_neg hfl] at CS
    go_upto_region 7 with fail
    refine wl <| gzl rfl ⟨g2, 0, none⟩ (.agg (lgA ad B.length k c)) (load_lg hX26) <| gzl rfl ⟨g8, 0, none⟩ (.agg (acA (x.1, y.2.1 + x.2, y.2.2))) (load_acb hX86) <|
     gze (fun v w' => ∃ a7 k7, v = .tuple #[.agg (lgA a7 B2.length k7 c), .int .i64 0] ∧ RowA w' V6.heap.size (.slice a7 B2.length k7) B2 ∧ Below V6.heap.size V6 w') (CS.mono fun e w' q => by obtain ⟨ad, kk, h1, h2, h3⟩ := q; exact ⟨_, h1, ad, kk, rfl, h2, h3⟩) (fun vv V7 hq => ?_)
    obtain ⟨a7, k7, rfl, hr7, hb7⟩ := hq
    obtain ⟨V8, hst8, hb8, hbx8⟩ := new_lg V7 a7 B2.length k7 c
    simp only [pu]
    refine gz3 (.tuple #[.agg (lgA a7 B2.length k7 c), .int .i64 0]) (.agg (lgA a7 B2.length k7 c)) (.int .i64 0) ?_
    simp only [pu]
    refine run_to rfl (some 10) rfl (.pointer (some ⟨V7.heap.size, 0, none⟩)) (V7.alloc (.cells (lgA none 0 0 0) 27)) (by kernel_rfl) ?_
    simp only [pu]
    refine gzs rfl (hst8) <| gz1 (.int .i64 0) <| wn ?_
    simp only [pu]
    obtain ⟨g10, hg10⟩ : ∃ g10, V7.heap.size = g10 := ⟨_, rfl⟩
    have hb78 := hb7.trans (hb8.mono hb7.size)
    have hX48 := hX46.below hX46.lt hb78
    have hX28 := hX26.below hX26.lt hb78
    have hBel := (HL.out.bel.trans (HB6.out.mono HL.out.bel.size)).trans (hb78.mono (HL.out.bel.trans (HB6.out.mono HL.out.bel.size)).size)
    rw [hg10] at hbx8 ⊢
    obtain ⟨hst9, hX29⟩ := store_lg (a' := a7) (n' := B2.length) (k' := k7) (c' := c) hX28
    have hB9 := belowRow hBel HG.out.1 (lgA a7 B2.length k7 c)
    have hX49 := hX48.but (But.setRow (g := g2) V8 (lgA a7 B2.length k7 c)) HG.out.2.2.2
    have hg26 : g2 < V6.heap.size := by have := HVS.out; have := HB6.out.size; omega
    have hg46 : g4 < V6.heap.size := by have := HVS.out; have := HB6.out.size; omega
    have hr9 := own_but (own_below hr7 hb8) (But.setRow (g := g2) V8 (lgA a7 B2.length k7 c)) hg26
    have hne9 := row_lt hr9
    have HGL2 : Hid (GvL w g2 g4 Bs A c t (j + 1) (V8.setRow g2 (lgA a7 B2.length k7 c)) B2 a7 k7) := Lib.hid ⟨hJ1, hval hfl, hX29, hX49, own_base hr9 (Nat.le_trans hBs (Nat.le_trans HL.out.bel.size HB6.out.size)), hB9, fun q hq => by have := (hne9 q hq).1; omega⟩
    generalize V8.setRow g2 (lgA a7 B2.length k7 c) = V9 at *
    clear hB9 hX48 hX28 hBel hb78 hX29 hX49 hr9 hr7 hb7 hb8 hne9
    go_upto_region 8 with fail
    refine wl <| gz1 (.int .i64 0) <| gzb (neq_e rfl 0 0 (decide_eq_true rfl)) <| wn ?_
    simp only [pu]
    go_upto_region 10 with fail
    refine wl <| gzl rfl ⟨g10, 0, none⟩ (.agg (lgA a7 B2.length k7 c)) (load_lg hbx8) <| gzs rfl (hst9) <| wn ?_
    simp only [pu]
    go_upto_region 11 with fail
    refine wl <| gzw (.int .i64 (j + 1 : Nat)) (add_nat rfl j 1 (by omega)) <| gz1 (.int .i64 (j + 1 : Nat)) <| wn ?_
    simp only [pu]
    go_wp2_with fail
    go_roundg (t.tr.length - (j + 1))
    case measure => have := HG9.out; omega
    case rel => exact ⟨j + 1, B2, a7, k7, rfl, hlt, HGL2, rfl⟩
  ·skip
   obtain rfl : t.tr.length = j := by omega
   have hfin : doneL A t = B := (HL.out.gj.is).symm
   obtain ⟨hst9, hX9⟩ := store_lg (a' := ad) (n' := B.length) (k' := k) (c' := c) HL.out.bx4
   have hrow := row_keep HL.out.row (fun q hq => (HL.out.ne q hq).2) (But.setRow (g := g4) wr (lgA ad B.length k c))
   have hb9 := belowRow HL.out.bel HG.out.2.1 (lgA ad B.length k c)
   have hyes := givX_yes (A := A) (c := c) (t := t) (by rw [hfin]; omega)
   rw [hfin] at hyes
   have HE : Hid (LedB Bs w (givX A c t) (.returned (.tuple #[.agg (lgA ad B.length k c), .int .i64 0])) (wr.setRow g4 (lgA ad B.length k c))) := Lib.hid (by rw [hyes]; exact ⟨ad, k, rfl, hrow, hb9⟩)
   generalize wr.setRow g4 (lgA ad B.length k c) = V9 at *
   clear hrow hb9 hyes hfin
   go_upto_region 2 with fail
   refine wl <| gzb (lss_n rfl (t.tr.length) (t.tr.length) dF) <| wn ?_
   simp only [pu]
   go_upto_region 12 with fail
   refine wl <| gzl rfl ⟨g2, 0, none⟩ (.agg (lgA ad B.length k c)) (load_lg HL.out.bx2) <| gzs rfl (hst9) <| gz1 (.int .i64 0) <| wn ?_
   simp only [pu]
   go_wp2_with fail
   exact bodyPost_ret (results_c (p := 4) (q := 5) rfl (by kernel_rfl) (load_lg hX9) rfl) rfl HE.out
end Go.Proofs.Ytglglhcnofbagaa.Lg
