/-
 The program's longer, and its list's add, remove, expired: contracts.
-/
import Derived.Test.YtdjphghoollejaaIS
namespace Go.Proofs.Ytdjphghoollejaa
attribute [local irreducible] wpList wpQuiet
open Go.RowKit
set_option maxRecDepth 100000
set_option linter.unusedSimpArgs false
set_option linter.unusedVariables false

set_option maxRecDepth 100000 in
set_option maxHeartbeats 8000000 in
theorem q_longer {thn nw lim : Int} (ht : I64 thn) (hn : I64 nw) (hl : I64 lim) (h0 : 0 ≤ lim) (w : World) : Calls Try.prog 31 #[.int .i64 thn, .int .i64 nw, .int .i64 lim] w fun e w' => e = .returned (.bool (longB thn nw lim)) ∧ w = w' := by
 obtain ⟨q, hq⟩ : ∃ q, longB thn nw lim = q := ⟨_, rfl⟩
 have HQ : Hid ((¬ thn < nw → q = false) ∧ (thn < nw → decide (IntKind.u64.wrap lim < IntKind.u64.wrap (IntKind.u64.wrap nw - IntKind.u64.wrap thn)) = q)) := Lib.hid ⟨fun h => by rw [← hq]; exact decide_eq_false fun h2 => h h2.1, fun h2 => by
  rw [← hq, uw_sub hn ht h2, uw_id h0 hl]
  exact decide_eq_decide.2 ⟨fun h3 => ⟨h2, h3⟩, fun h3 => h3.2⟩⟩
 rw [hq]
 clear hq hn ht hl h0
 go_enter Try.func31, Try.ntmps31
 by_cases h2 : thn < nw
 ·skip
  have HQ3 := Lib.hid (HQ.out.2 h2)
  go_upto_region 1 with fail
  refine wl <| gz2 (.int .i64 thn) (.int .i64 nw) <| gzb (lss_n rfl thn nw (decide_eq_true h2)) <| gz2 (.bool true) (.int .i64 nw) <| gzv (.int .u64 (IntKind.u64.wrap nw)) (cvU rfl nw (by kernel_rfl) _) <| gz1 (.int .i64 thn) <|
   gzv (.int .u64 (IntKind.u64.wrap thn)) (cvU rfl thn (by kernel_rfl) _) <| gzw (.int .u64 (IntKind.u64.wrap (IntKind.u64.wrap nw - IntKind.u64.wrap thn))) (sbU rfl _ _) <| gz1 (.int .i64 lim) <|
   gzv (.int .u64 (IntKind.u64.wrap lim)) (cvU rfl lim (by kernel_rfl) _) <| gzw (.bool q) (gtU rfl _ _ HQ3.out) <| gz2 (.bool q) (.bool q) <| wn ?_
  simp only [pu]
  go_wp2_with fail
  go_ret
  exact ⟨rfl, rfl⟩
 ·skip
  obtain rfl := HQ.out.1 h2
  go_upto_region 1 with fail
  refine wl <| gz2 (.int .i64 thn) (.int .i64 nw) <| gzb (lss_n rfl thn nw (decide_eq_false h2)) <| gz6 (.bool false) undef undef undef undef undef <| gz5 undef undef undef (.bool false) (.bool false) <| wn ?_
  simp only [pu]
  go_wp2_with fail
  go_ret
  exact ⟨rfl, rfl⟩
theorem tw_step {E : List Eo} {p : Eo → Bool} {i : Nat} (hi : i < E.length) : (E.drop i).takeWhile p = if p (ena E i) then ena E i :: (E.drop (i + 1)).takeWhile p else [] := by
 unfold ena
 rw [getD_lt E i zen hi, List.drop_eq_getElem_cons hi, List.takeWhile_cons]
/-- The measures of a list are ints. -/
def EnW (E : List Eo) : Prop := ∀ e ∈ E, I64 e.1
set_option maxRecDepth 100000 in
set_option maxHeartbeats 8000000 in
theorem q_expd {w : World} {g o : Nat} {cs : Array Value} {lim now : Int} {v : Value} {E : List Eo} (hX : Bx w g cs 56) (ho : cs[o]? = some (.int .i64 lim)) (ho1 : cs[o + 1]? = some v) (hr : Rowen w 0 v E) (hl : E.length ≤ 10000) (hE : EnW E) (hlim : I64 lim) (hnow : I64 now) : Calls Try.prog 23 #[.pointer (some ⟨g, o, none⟩), .int .i64 now] w (IsO w (expL E lim now)) := by
 by_cases h0 : lim ≤ 0
 ·have HE : Hid (IsO w (expL E lim now) (.returned (.slice none 0 0)) w) := Lib.hid (by unfold expL; rw [if_pos h0]; exact ⟨_, rfl, own_no _ _ _ _, Below.refl _ _⟩)
  obtain ⟨PO, hPO⟩ : ∃ PO, IsO w (expL E lim now) = PO := ⟨_, rfl⟩
  rw [hPO] at HE ⊢
  have HX := Lib.hid hX
  clear hPO hr hl hE hlim hnow ho1 hX
  go_enter Try.func23, Try.ntmps23
  go_upto_region 1 with fail
  refine wl <| gz1 (.slice none 0 0) <| wn ?_
  simp only [pu]
  go_upto_region 2 with fail
  refine wl <| gz3 (.pointer (some ⟨g, o, none⟩)) (.pointer (some ⟨g, o, none⟩)) (.pointer (some ⟨g, o, none⟩)) <| gzl rfl ⟨g, o, none⟩ (.int .i64 lim) (HX.out.load (i := o) ho (by kernel_rfl)) <| gzb (leq_n rfl lim 0 (decide_eq_true h0)) <|
   wpList_nil ?_
  simp only [pu]
  clear ho h0 HX
  go_upto_region 3 with fail
  refine wl <| gz2 (.slice none 0 0) (.slice none 0 0) <| wn ?_
  simp only [pu]
  go_wp2_with fail
  exact HE.out
 ·obtain ⟨a, c, rfl, hcs, hcc⟩ := hr.cs
  have HRG : Hid (∀ V, Below w.heap.size w V → ∀ i, i < E.length → ∃ b off, a = some ⟨b, off, none⟩ ∧ V.rangeAt b (off + i * 2) (enl (ena E i))) := Lib.hid fun V hV i hi => by
   obtain ⟨b, off, h1, -, h2⟩ := en_rga (hcs.below hV) hi
   exact ⟨b, off, h1, h2⟩
  have HTW : Hid (∀ i, i < E.length → (E.drop i).takeWhile (fun e => longB e.1 now lim) = if longB (ena E i).1 now lim then ena E i :: (E.drop (i + 1)).takeWhile (fun e => longB e.1 now lim) else []) := Lib.hid fun i hi => tw_step (p := fun e => longB e.1 now lim) hi
  have HTE : Hid ((E.drop E.length).takeWhile (fun e => longB e.1 now lim) = []) := Lib.hid (by rw [List.drop_length]; rfl)
  have HCL : Hid (∀ i, i < E.length → ∀ V, Calls Try.prog 31 #[.int .i64 (ena E i).1, .int .i64 now, .int .i64 lim] V fun e w' => e = .returned (.bool (longB (ena E i).1 now lim)) ∧ V = w') := Lib.hid fun i hi V => q_longer (hE _ (ena_mem hi)) hnow hlim (by omega) V
  have HEND : Hid (∀ V u, Below w.heap.size w V → RowI V w.heap.size u (expL E lim now) → IsO w (expL E lim now) (.returned u) V) := Lib.hid fun V u hV h => ⟨u, rfl, h, hV⟩
  have HR0 : Hid (expL E lim now = [] ++ ((E.drop 0).takeWhile fun e => longB e.1 now lim).map (fun e => e.2) ∧ ([] : List Int).length ≤ 0) := Lib.hid ⟨by unfold expL; rw [if_neg h0]; rfl, Nat.le_refl 0⟩
  obtain ⟨R9, hR9⟩ : ∃ R, expL E lim now = R := ⟨_, rfl⟩
  rw [hR9] at HEND HR0 ⊢
  obtain ⟨PO, hPO⟩ : ∃ PO, IsO w R9 = PO := ⟨_, rfl⟩
  rw [hPO] at HEND ⊢
  obtain ⟨n, hn⟩ : ∃ n, E.length = n := ⟨_, rfl⟩
  rw [hn] at HRG HTW HTE HCL hl ho1
  have HLL := Lib.hid hl
  have HX := Lib.hid hX
  have HO := Lib.hid ho
  clear hcs hcc hr hn hPO hR9 hE hlim hnow hX hl
  go_enter Try.func23, Try.ntmps23
  go_upto_region 1 with fail
  refine wl <| gz1 (.slice none 0 0) <| wn ?_
  simp only [pu]
  go_upto_region 2 with fail
  refine wl <| gz3 (.pointer (some ⟨g, o, none⟩)) (.pointer (some ⟨g, o, none⟩)) (.pointer (some ⟨g, o, none⟩)) <| gzl rfl ⟨g, o, none⟩ (.int .i64 lim) (HX.out.load (i := o) ho (by kernel_rfl)) <| gzb (leq_n rfl lim 0 (decide_eq_false h0)) <|
   wpList_nil ?_
  simp only [pu]
  clear h0 ho
  go_upto_region 4 with fail
  refine wl <| gz3 (.pointer (some ⟨g, o, none⟩)) (.pointer (some ⟨g, o, none⟩)) (.pointer (some ⟨g, o + 1, none⟩)) <| gzl rfl ⟨g, o + 1, none⟩ (.slice a n c) (HX.out.load (i := o + 1) ho1 (by kernel_rfl)) <| gz2 (.int .i64 n) (.int .i64 0) <| wn ?_
  simp only [pu]
  clear ho1
  go_wp2_with fail
  go_loopg [5, 19] n (fun gg s5 s19 wx => ∃ (i : Nat) (u : Value) (L : List Int), s19 = .int .i64 i ∧ s5 = u ∧ i ≤ n ∧ gg + i = n ∧ Hid (R9 = L ++ ((E.drop i).takeWhile fun e => longB e.1 now lim).map (fun e => e.2) ∧ L.length ≤ i) ∧ Hid (RowI wx w.heap.size u L) ∧ Hid (Below w.heap.size w wx))
  case atStart => exact ⟨0, _, [], rfl, rfl, by omega, by omega, HR0, Lib.hid (own_no _ _ _ _), Lib.hid (Below.refl _ _)⟩
  case round =>
   obtain ⟨i, v, L, rfl, hv, hin, hg, HQ, HP, HR⟩ := hrel
   obtain rfl := hv.symm
   have HGK : Hid (gk + i = n) := Lib.hid hg
   clear hg HR0
   by_cases hlt : i < n
   ·skip
    obtain ⟨b, off, hbb, hrg⟩ := HRG.out wr HR.out i hlt
    obtain rfl := hbb
    have hQ := HQ.out
    rw [HTW.out i hlt] at hQ
    have CLN := HCL.out i hlt
    obtain ⟨x, hx⟩ : ∃ x, ena E i = x := ⟨_, rfl⟩
    rw [hx] at hrg hQ CLN
    obtain ⟨V2, hst2, hb2, hX2⟩ := new_bx (c := enA zen) (c' := enA x) (ty := 62) wr rfl (enA_one x) (by kernel_rfl)
    have HR2 := Lib.hid (HR.out.trans (hb2.mono HR.out.size))
    have HP2 := Lib.hid (HP.out.below hb2)
    have HQ2 := Lib.hid hQ
    have HXg := Lib.hid (HX.out.below HX.out.lt HR2.out)
    clear hx hQ HQ hb2 HR HP
    go_upto_region 5 with fail
    refine wl <| gzb (lss_n rfl (i) (n) dT) <| wn ?_
    simp only [pu]
    go_upto_region 6 with fail
    refine wl <| gzv (.pointer (some ⟨b, off + i * 2, none⟩)) (idx_en b off n c i hlt _ _ _ rfl (by kernel_rfl) (by kernel_rfl)) <| gzl rfl ⟨b, off + i * 2, none⟩ (.agg (enA x)) (load_en hrg) ?_
    simp only [pu]
    refine run_to rfl (some 7) rfl (.pointer (some ⟨wr.heap.size, 0, none⟩)) (wr.alloc (.cells (enA zen) 62)) (by kernel_rfl) ?_
    simp only [pu]
    refine gzs rfl (hst2) <| wn ?_
    obtain ⟨g5, hg5⟩ : ∃ g, wr.heap.size = g := ⟨_, rfl⟩
    rw [hg5] at hX2 ⊢
    clear hst2 hg5 hrg
    cases hq9 : longB x.1 now lim
    ·skip
     go_upto_region 7 with fail
     refine wp_region_class (C := fun U => Below V2.heap.size V2 U) (by kernel_rfl) (by kernel_rfl) ((Below.refl _ V2).drew) ?_
     refine gy (.pointer (some ⟨g5, 0, none⟩)) <| gyl rfl ⟨g5, 0, none⟩ (.int .i64 x.1) (fun U hU => (hX2.below hX2.lt hU).load (i := 0) rfl (by kernel_rfl)) <| gy (.int .i64 now) <| gy (.pointer (some ⟨g, o, none⟩)) <| gy (.pointer (some ⟨g, o, none⟩)) <| gy (.pointer (some ⟨g, o, none⟩)) <|
       gyl rfl ⟨g, o, none⟩ (.int .i64 lim) (fun U hU => (HXg.out.below HXg.out.lt hU).load (i := o) HO.out (by kernel_rfl)) ?_
     simp only [pu]
     refine gq_call (by kernel_rfl) (some 30) rfl 31 #[.int .i64 x.1, .int .i64 now, .int .i64 lim] (.bool false) (fun U hU => by kernel_rfl) (fun U hU => (CLN U).mono fun e w2 q => ⟨by rw [q.1, hq9], q.2 ▸ hU⟩) ?_
     simp only [pu]
     refine gy (.bool true) ?_
     simp only [pu]
     apply wpQuiet_nil
     intro V3 hV3
     have HR3 := Lib.hid (HR2.out.trans (hV3.mono HR2.out.size))
     have hX3 := hX2.below hX2.lt hV3
     have HP3 := Lib.hid (HP2.out.below hV3)
     have hQ := HQ2.out
     rw [hq9] at hQ
     clear hV3 HR2 hX2 HP2 HQ2 CLN HXg hq9
     rw [if_neg Bool.false_ne_true, List.map_nil, List.append_nil] at hQ
     have HE := Lib.hid (HEND.out V3 v HR3.out (by rw [hQ.1]; exact HP3.out))
     clear hQ hX3 HP3 HR3 HEND HTW HTE HRG HCL HX
     go_upto_region 10 with fail
     refine wl <| gz2 (v) (v) <| wn ?_
     simp only [pu]
     go_wp2_with fail
     exact HE.out
    ·skip
     go_upto_region 7 with fail
     refine wp_region_class (C := fun U => Below V2.heap.size V2 U) (by kernel_rfl) (by kernel_rfl) ((Below.refl _ V2).drew) ?_
     refine gy (.pointer (some ⟨g5, 0, none⟩)) <| gyl rfl ⟨g5, 0, none⟩ (.int .i64 x.1) (fun U hU => (hX2.below hX2.lt hU).load (i := 0) rfl (by kernel_rfl)) <| gy (.int .i64 now) <| gy (.pointer (some ⟨g, o, none⟩)) <| gy (.pointer (some ⟨g, o, none⟩)) <| gy (.pointer (some ⟨g, o, none⟩)) <|
       gyl rfl ⟨g, o, none⟩ (.int .i64 lim) (fun U hU => (HXg.out.below HXg.out.lt hU).load (i := o) HO.out (by kernel_rfl)) ?_
     simp only [pu]
     refine gq_call (by kernel_rfl) (some 30) rfl 31 #[.int .i64 x.1, .int .i64 now, .int .i64 lim] (.bool true) (fun U hU => by kernel_rfl) (fun U hU => (CLN U).mono fun e w2 q => ⟨by rw [q.1, hq9], q.2 ▸ hU⟩) ?_
     simp only [pu]
     refine gy (.bool false) ?_
     simp only [pu]
     apply wpQuiet_nil
     intro V3 hV3
     have HR3 := Lib.hid (HR2.out.trans (hV3.mono HR2.out.size))
     have hX3 := hX2.below hX2.lt hV3
     have HP3 := Lib.hid (HP2.out.below hV3)
     have hQ := HQ2.out
     rw [hq9] at hQ
     clear hV3 HR2 hX2 HP2 HQ2 CLN HXg hq9
     rw [if_pos rfl, List.map_cons] at hQ
     have HLB : Hid (L.length ≤ 10000) := Lib.hid (by have := hQ.2; have := HLL.out; omega)
     have HQ3 : Hid (R9 = (L ++ [x.2]) ++ ((E.drop (i + 1)).takeWhile fun e => longB e.1 now lim).map (fun e => e.2) ∧ (L ++ [x.2]).length ≤ i + 1) := Lib.hid ⟨by rw [List.append_assoc]; exact hQ.1, by rw [List.length_append, List.length_singleton]; have := hQ.2; omega⟩
     clear hQ
     have hbA : Below V3.heap.size V3 (V3.alloc (.cells #[.int .i64 (x.2)] 3)) := (Below.refl _ V3).alloc (Nat.le_refl _) _
     have hXA : Bx (V3.alloc (.cells #[.int .i64 (x.2)] 3)) V3.heap.size #[.int .i64 (x.2)] 3 := heap_alloc_last V3 _
     obtain ⟨v6, W6, hap6, hrow6, hb6, -, -⟩ := app_int (RowI.below HP3.out hbA) (Nat.le_trans (HR3.out.size) hbA.size) (some ⟨V3.heap.size, 0, none⟩) 1 1 [x.2] (Cs.block (cs := icells [x.2]) hXA) rfl (by have := HLB.out; omega) (by omega)
     have hbW6 : Below w.heap.size V3 W6 := (hbA.mono (HR3.out.size)).trans hb6
     go_upto_region 8 with fail
     refine wl <| gz2 (v) (.pointer (some ⟨g5, 1, none⟩)) <| gzl rfl ⟨g5, 1, none⟩ (.int .i64 x.2) (hX3.load (i := 1) rfl (by kernel_rfl)) ?_
     simp only [pu]
     refine gw_build (by kernel_rfl) (some 35) rfl 22 1 #[(0, .tmp 34)] rfl #[(0, .int .i64 (x.2))] (by kernel_rfl) (.slice (some ⟨V3.heap.size, 0, none⟩) 1 1) _ (one_int (x.2) V3) ?_
     simp only [pu]
     refine append_step rfl (some 36) rfl 22 rfl (.tmp 32) (.tmp 35) 22 rfl (v) (.slice (some ⟨V3.heap.size, 0, none⟩) 1 1) (v6) W6 (by kernel_rfl) (by kernel_rfl) hap6 ?_
     simp only [pu]
     refine gz1 (v6) <| wn ?_
     simp only [pu]
     have HR6 := Lib.hid (HR3.out.trans hbW6)
     obtain ⟨L9, hL9⟩ : ∃ L9, L ++ [x.2] = L9 := ⟨_, rfl⟩
     rw [hL9] at HQ3 hrow6
     have HP6 : Hid (RowI W6 w.heap.size v6 L9) := Lib.hid hrow6
     clear hap6 hrow6 hb6 hbW6 hbA hXA HP3 HR3 hX3 hL9
     go_upto_region 9 with fail
     refine wl <| gzv (.int .i64 (i + 1 : Nat)) (add_one rfl i (by have := HLL.out; omega) (by kernel_rfl) _) <| gz1 (.int .i64 (i + 1 : Nat)) <| wn ?_
     simp only [pu]
     go_wp2_with fail
     go_roundg (n - (i + 1))
     case measure => have := HGK.out; omega
     case rel => exact ⟨i + 1, v6, L9, rfl, rfl, by omega, by omega, HQ3, HP6, HR6⟩
   ·skip
    obtain rfl : i = n := by omega
    go_upto_region 5 with fail
    refine wl <| gzb (lss_n rfl (i) (i) dF) <| wn ?_
    simp only [pu]
    have hQ := HQ.out
    rw [HTE.out, List.map_nil, List.append_nil] at hQ
    have HE := Lib.hid (HEND.out wr v HR.out (by rw [hQ.1]; exact HP.out))
    clear HP HR HEND HTW HTE HRG HCL HX hQ HQ
    go_upto_region 10 with fail
    refine wl <| gz2 (v) (v) <| wn ?_
    simp only [pu]
    go_wp2_with fail
    exact HE.out
/-- What add and remove leave. -/
def LaO (w : World) (g o : Nat) (cs : Array Value) (v : Value) (E2 : List Eo) (w' : World) : Prop := ∃ v', Bx w' g (cs.setIfInBounds (o + 1) v') 56 ∧ Rowen w' 0 v' E2 ∧ ButS 0 (fun j => j = g ∨ v.ownBlock = some j) w w' ∧ (v'.ownBlock = v.ownBlock ∨ ∃ k, w.heap.size ≤ k ∧ v'.ownBlock = some k)
theorem buts_grown {Q : Nat → Prop} {w w' : World} {r : Option Nat} (h : w.grownBy w' r) (hQ : ∀ j, r = some j → Q j) : ButS 0 Q w w' := ⟨⟨h.1, h.2, h.3, h.4, fun k hk => absurd hk (Nat.not_lt_zero k)⟩, fun k hk hn => h.5 k hk fun e => hn (hQ k e.symm)⟩
theorem buts_but {Q : Nat → Prop} {w w' : World} {g : Nat} (h : But g w w') (hQ : Q g) : ButS 0 Q w w' := ⟨h.1.mono (Nat.zero_le _), fun k hk hn => h.2 k hk fun e => hn (e ▸ hQ)⟩
theorem buts_below {Q : Nat → Prop} {w w' : World} (h : Below w.heap.size w w') : ButS 0 Q w w' := ButS.of_below h (Nat.zero_le _)
theorem row_ne {w : World} {v : Value} {E : List Eo} {k t : Nat} {cs : Array Value} (h : Rowen w 0 v E) (hk : v.ownBlock = some k) (hX : Bx w k cs t) (ht : t ≠ 62) : False := by
 rcases own_slice h with ⟨rfl, -⟩ | ⟨b, c, rfl, -, -, -⟩
 ·cases hk
 ·obtain ⟨cur, hc, -⟩ := own_row h
  simp only [Value.ownBlock, Option.some.injEq] at hk
  subst hk
  unfold Bx at hc hX
  rw [hc] at hX
  simp only [Option.some.injEq, Obj.cells.injEq] at hX
  exact ht hX.2.1.symm
theorem row_nm {w : World} {v : Value} {E : List Eo} {k : Nat} {es : Array MapEntry} {c : Nat} (h : Rowen w 0 v E) (hk : v.ownBlock = some k) (hX : w.heap[k]? = some (.map es c)) : False := by
 rcases own_slice h with ⟨rfl, -⟩ | ⟨b, c, rfl, -, -, -⟩
 ·cases hk
 ·obtain ⟨cur, hc, -⟩ := own_row h
  simp only [Value.ownBlock, Option.some.injEq] at hk
  subst hk
  unfold Bx at hc
  rw [hc] at hX
  cases hX
theorem row_same {w w' : World} {v : Value} {E : List Eo} (h : Rowen w 0 v E) (hs : ∀ k, v.ownBlock = some k → w'.heap[k]? = w.heap[k]?) : Rowen w' 0 v E := by
 obtain ⟨a, c, rfl, -, -⟩ := h.cs
 exact own_same2 h fun x hx => hs _ (by rw [hx]; rfl)
/-- Behind the insertion, ahead of the store. -/
def MiA (W : World) (g : Nat) (cs : Array Value) (v : Value) (E2 : List Eo) (x23 : Value) (V : World) : Prop := Rowen V 0 x23 E2 ∧ Bx V g cs 56 ∧ ButS 0 (fun j => j = g ∨ v.ownBlock = some j) W V ∧ (x23.ownBlock = v.ownBlock ∨ ∃ k, W.heap.size ≤ k ∧ x23.ownBlock = some k)
theorem MiA.ins {W V V2 : World} {g : Nat} {cs : Array Value} {v x23 : Value} {E E2 : List Eo} (hX : Bx W g cs 56) (hr : Rowen W 0 v E) (hb : Below W.heap.size W V) (h1 : Rowen V2 0 x23 E2) (h2 : V.grownBy V2 v.ownBlock) (h3 : x23.ownBlock = v.ownBlock ∨ ∃ k, V.heap.size ≤ k ∧ x23.ownBlock = some k) : MiA W g cs v E2 x23 V2 := by
 have hX2 := hX.below hX.lt hb
 have hne : v.ownBlock ≠ some g := fun e => row_ne hr e hX (by decide)
 refine ⟨h1, (h2.5 g hX2.lt (Ne.symm hne)).trans hX2, (buts_below hb).trans' (buts_grown h2 fun j hj => .inr hj), h3.imp id fun ⟨k, h4, h5⟩ => ⟨k, Nat.le_trans hb.size h4, h5⟩⟩
theorem MiA.fin {W V : World} {g o : Nat} {cs : Array Value} {v x23 : Value} {E2 : List Eo} (h : MiA W g cs v E2 x23 V) (ho : o + 1 < cs.size) : ∃ V2, (Instr.storeAt 52 (.pointer (some ⟨g, o + 1, none⟩)) x23).run Try.prog V = .ok () V2 ∧ LaO W g o cs v E2 V2 := by
 obtain ⟨h1, h2, h3, h4⟩ := h
 obtain ⟨a, c, rfl, -, -⟩ := h1.cs
 obtain ⟨V2, hs, hX2, hb2⟩ := st_fld (i := o + 1) (v := .slice a E2.length c) (ty := 52) _ h2 ho rfl rfl (by kernel_rfl)
 refine ⟨V2, hs, _, hX2, row_same h1 fun k hk => hb2.2 k (h1.lt k hk).2 fun e => row_ne h1 (by rw [hk, e]) h2 (by decide), h3.trans' (buts_but hb2 (.inl rfl)), h4⟩
theorem st_stv {P : Program} {ops : Array Oper} {Q : Exit → Act → World → Prop} {i : Nat} {o : Oper} {a : Act} {w : World} {K : Act → World → Prop} (hi : ops[i]? = some o) (hw : Region.wanted o (yielded ops a.tmps) = true) (hd : o.dst = none) (ty : TypeId) (x y : Operand) (ho : o.op = .store ty x y) (vx vy : Value) (hx : a.eval x = vx) (hy : a.eval y = vy) (w2 : World) (hr : (Instr.storeAt ty vx vy).run P w = .ok () w2) (h : K a w2) : wpOp P ops Q i K a w := by
 refine st_of hi hw ?_
 unfold Oper.wp execOp
 simp only [ho, hx, hy, Sem.run_bind, hr, Sem.run_pure, Result.andThen_ok]
 show K (a.put o.dst undef) _
 rw [hd]
 exact h
/-- What the region of add keeps. -/
structure KA (W : World) (g o : Nat) (cs : Array Value) (v : Value) (E2 : List Eo) (q : Eo) (b4 b6 b7 b8 b11 : Bool) (x22 x23 : Value) (V : World) : Prop where
 o8 : b8 = true → b4 = true ∧ b7 = true
 o7 : b7 = true → b6 = true
 o11 : b11 = true → b8 = true
 pre : b8 = false → Below W.heap.size W V
 bld : b7 = true → b8 = false → ∃ gq, x22 = .slice (some ⟨gq, 0, none⟩) 1 1 ∧ Bx V gq (enA q) 62 ∧ W.heap.size ≤ gq
 mid : b8 = true → b11 = false → MiA W g cs v E2 x23 V
 fin : b11 = true → LaO W g o cs v E2 V
section
variable {W : World} {g o : Nat} {cs : Array Value} {v : Value} {E E2 : List Eo} {q : Eo} {b4 b6 b7 b8 b11 : Bool} {x22 x23 : Value} {V : World}
theorem KA.start {W V1 : World} (hb : Below W.heap.size W V1) (g o : Nat) (cs : Array Value) (v : Value) (E2 : List Eo) (q : Eo) (x22 x23 : Value) : KA W g o cs v E2 q false false false false false x22 x23 V1.drew := ⟨fun h => by (cases h), fun h => by (cases h), fun h => by (cases h), fun _ => hb.drew, fun h => by (cases h), fun h => by (cases h), fun h => by (cases h)⟩
theorem KA.s4 (h : KA W g o cs v E2 q b4 b6 b7 b8 b11 x22 x23 V) : KA W g o cs v E2 q true b6 b7 b8 b11 x22 x23 V := { h with o8 := fun h8 => ⟨rfl, (h.o8 h8).2⟩ }
theorem KA.s6 (h : KA W g o cs v E2 q b4 b6 b7 b8 b11 x22 x23 V) : KA W g o cs v E2 q b4 true b7 b8 b11 x22 x23 V := { h with o7 := fun _ => rfl }
theorem KA.n8 (h : KA W g o cs v E2 q false b6 b7 b8 b11 x22 x23 V) : b8 = false := by cases b8; rfl; exact absurd (h.o8 rfl).1 (by decide)
theorem KA.n7 (h : KA W g o cs v E2 q b4 b6 false b8 b11 x22 x23 V) : b8 = false := by cases b8; rfl; exact absurd (h.o8 rfl).2 (by decide)
theorem KA.n6 (h : KA W g o cs v E2 q b4 false b7 b8 b11 x22 x23 V) : b7 = false := by cases b7; rfl; exact absurd (h.o7 rfl) (by decide)
theorem KA.n11 (h : KA W g o cs v E2 q b4 b6 b7 false b11 x22 x23 V) : b11 = false := by cases b11; rfl; exact absurd (h.o11 rfl) (by decide)
theorem KA.s7 (h : KA W g o cs v E2 q b4 true false false b11 x22 x23 V) : KA W g o cs v E2 q b4 true true false b11 (.slice (some ⟨V.heap.size, 0, none⟩) 1 1) x23 (V.alloc (.cells (enA q) 62)) :=
 {o8 := fun h8 => by (cases h8), o7 := fun _ => rfl, o11 := h.o11, pre := fun _ => (h.pre rfl).alloc (h.pre rfl).size _, bld := fun _ _ => ⟨_, rfl, heap_alloc_last V _, (h.pre rfl).size⟩, mid := fun h8 => by (cases h8), fin := fun h11 => by (cases h.o11 h11) }
theorem KA.s8 (h : KA W g o cs v E2 q true b6 true false false x22 x23 V) {V2 : World} {x : Value} (hm : MiA W g cs v E2 x V2) : KA W g o cs v E2 q true b6 true true false x22 x V2 :=
 {o8 := fun _ => ⟨rfl, rfl⟩, o7 := h.o7, o11 := fun h11 => by (cases h11), pre := fun h8 => by (cases h8), bld := fun _ h8 => by (cases h8), mid := fun _ _ => hm, fin := fun h11 => by (cases h11) }
theorem KA.s11 (h : KA W g o cs v E2 q b4 b6 b7 true false x22 x23 V) {V2 : World} (hf : LaO W g o cs v E2 V2) : KA W g o cs v E2 q b4 b6 b7 true true x22 x23 V2 :=
 {o8 := h.o8, o7 := h.o7, o11 := fun _ => rfl, pre := fun h8 => by (cases h8), bld := fun _ h8 => by (cases h8), mid := fun _ h11 => by (cases h11), fin := fun _ => hf }
end
theorem LaO.mono {w W W' : World} {g o : Nat} {cs : Array Value} {v : Value} {E2 : List Eo} (h : LaO W g o cs v E2 W') (hb : Below w.heap.size w W) : LaO w g o cs v E2 W' := by
 obtain ⟨v', h1, h2, h3, h4⟩ := h
 exact ⟨v', h1, h2, (buts_below hb).trans' h3, h4.imp id fun ⟨k, h5, h6⟩ => ⟨k, Nat.le_trans hb.size h5, h6⟩⟩
set_option maxRecDepth 100000 in
set_option maxHeartbeats 8000000 in
theorem q_ladd {w : World} {g o : Nat} {cs : Array Value} {v : Value} {E : List Eo} (hX : Bx w g cs 56) (ho1 : cs[o + 1]? = some v) (hr : Rowen w 0 v E) (hl : E.length ≤ 9000) (hs : SrtE E) (q : Eo) : Calls Try.prog 27 #[.pointer (some ⟨g, o, none⟩), .agg (enA q)] w fun e w' => e = .returned (.tuple #[]) ∧ LaO w g o cs v (E.take (cntE E q) ++ q :: E.drop (cntE E q)) w' := by
 have hb0 : Below w.heap.size w (w.alloc (.cells (enA q) 62)) := (Below.refl _ w).alloc (Nat.le_refl _) _
 have hX0 : Bx (w.alloc (.cells (enA q) 62)) w.heap.size (enA q) 62 := heap_alloc_last w _
 obtain ⟨W, hW⟩ : ∃ W, w.alloc (.cells (enA q) 62) = W := ⟨_, rfl⟩
 rw [hW] at hb0 hX0
 have hXg := hX.below hX.lt hb0
 have hr1 := hr.below hb0
 have CP := fun V (hV : Below W.heap.size W V) => q_place (hr1.below hV) hs (by omega) q
 have CI := fun V gq (hV : Below W.heap.size W V) (hq : Bx V gq (enA q) 62) (hge : W.heap.size ≤ gq) => q_ins (hr1.below hV) (cnt_le E q) (by omega) q hq (fun e => by have := (hr1.lt _ e).2; omega)
 obtain ⟨E2, hE2⟩ : ∃ E2, E.take (cntE E q) ++ q :: E.drop (cntE E q) = E2 := ⟨_, rfl⟩
 simp only [hE2] at CI
 rw [hE2]
 have hct2 : cntE E q ≤ 9000 := Nat.le_trans (cnt_le E q) hl
 obtain ⟨ct, hct⟩ : ∃ ct, cntE E q = ct := ⟨_, rfl⟩
 simp only [hct] at CI CP hct2
 obtain ⟨hb9, hhb⟩ : ∃ b, hasE E q = b := ⟨_, rfl⟩
 simp only [hhb] at CP
 obtain ⟨g3, hg3⟩ : ∃ g3, w.heap.size = g3 := ⟨_, rfl⟩
 rw [hg3] at hX0
 have hosz := (Array.getElem?_eq_some_iff.1 ho1).1
 have HOS := Lib.hid hosz
 have HCT := Lib.hid hct2
 have HCI := Lib.hid CI
 have HXV := Lib.hid hXg
 have HRV := Lib.hid hr1
 have HX3 := Lib.hid hX0
 have HO1 := Lib.hid ho1
 have HB0 := Lib.hid hb0
 clear hE2 hct hhb hct2 hosz hX hr hl hs CI
 go_enter Try.func27, Try.ntmps27
 go_upto_region 1 with fail
 clear hW hg3
 refine wp_region_class (C := fun U => Below W.heap.size W U) (by kernel_rfl) (by kernel_rfl) ((Below.refl _ W).drew) ?_
 refine gy (.pointer (some ⟨g, o, none⟩)) <| gy (.pointer (some ⟨g, o, none⟩)) <| gy (.pointer (some ⟨g, o + 1, none⟩)) <| gyl rfl ⟨g, o + 1, none⟩ (v) (fun U hU => (hXg.below hXg.lt hU).load (i := o + 1) ho1 (by kernel_rfl)) <|
   gyl rfl ⟨g3, 0, none⟩ (.agg (enA q)) (fun U hU => load_enb (hX0.below hX0.lt hU)) ?_
 simp only [pu]
 refine gq_call (by kernel_rfl) (some 12) rfl 28 #[v, .agg (enA q), .func (.func 29) #[] #[]] (.tuple #[.int .i64 ct, .bool hb9]) (fun U hU => by kernel_rfl) (fun U hU => (CP U hU).mono fun e w2 z => ⟨z.1, hU.trans (z.2.mono hU.size)⟩) ?_
 simp only [pu]
 refine gy (.tuple #[.int .i64 ct, .bool hb9]) <| gy (.int .i64 ct) <| gy (.bool hb9) <| gy (.int .i64 ct) <| gy (.bool hb9) ?_
 simp only [pu]
 apply wpQuiet_nil
 intro V1 hV1
 have HV1 := Lib.hid hV1
 clear hV1 hXg hr1 hX0 hb0 CP ho1
 go_upto_region 2 with fail
 have h0 := KA.start HV1.out g o cs v E2 q undef undef
 refine wp_region_inv (fun listed act9 V => ∃ b0 b1 b2 b3 b4 b5 b6 b7 b8 b9 b10 b11 : Bool, ∃ x22 x23 : Value, listed = #[b0, b1, b2, b3, b4, b5, b6, b7, b8, b9, b10, b11] ∧ act9 = { tmps := #[.pointer (some ⟨g, o, none⟩), .agg (enA q), undef, .pointer (some ⟨g3, 0, none⟩), .int .i64 ct, .bool hb9, .tuple #[.int .i64 ct, .bool hb9], .pointer (some ⟨g, o, none⟩), .pointer (some ⟨g, o, none⟩), .pointer (some ⟨g, o + 1, none⟩), v, .agg (enA q), .tuple #[.int .i64 ct, .bool hb9], .int .i64 ct, .bool hb9, (cond b0 (.pointer (some ⟨g, o, none⟩)) undef), (cond b1 (.pointer (some ⟨g, o, none⟩)) undef), (cond b2 (.pointer (some ⟨g, o, none⟩)) undef), (cond b3 (.pointer (some ⟨g, o + 1, none⟩)) undef), (cond b4 (v) undef), (cond b5 (.int .i64 ct) undef), (cond b6 (.agg (enA q)) undef), x22, x23, (cond b9 (.pointer (some ⟨g, o, none⟩)) undef), (cond b10 (.pointer (some ⟨g, o + 1, none⟩)) undef)], defers := [] } ∧ KA W g o cs v E2 q b4 b6 b7 b8 b11 x22 x23 V) (by kernel_rfl) (by kernel_rfl) ?_ ?_ ?_
 ·exact ⟨false, false, false, false, false, false, false, false, false, false, false, false, undef, undef, rfl, rfl, h0⟩
 ·intro i9 listed act9 V hi9 hr hJ
  obtain ⟨b0, b1, b2, b3, b4, b5, b6, b7, b8, b9, b10, b11, x22, x23, rfl, rfl, hF⟩ := hJ
  have hi2 : i9 < 12 := hi9
  have hi3 : i9 = 0 ∨ i9 = 1 ∨ i9 = 2 ∨ i9 = 3 ∨ i9 = 4 ∨ i9 = 5 ∨ i9 = 6 ∨ i9 = 7 ∨ i9 = 8 ∨ i9 = 9 ∨ i9 = 10 ∨ i9 = 11 := by omega
  rcases hi3 with rfl | rfl | rfl | rfl | rfl | rfl | rfl | rfl | rfl | rfl | rfl | rfl
  ·obtain rfl : b0 = false := ready_self hr
   refine st_val rfl (by kernel_rfl) (some 15) rfl (.pointer (some ⟨g, o, none⟩)) V (by kernel_rfl) ?_
   exact ⟨true, b1, b2, b3, b4, b5, b6, b7, b8, b9, b10, b11, x22, x23, rfl, rfl, hF⟩
  ·obtain rfl : b1 = false := ready_self hr
   refine st_val rfl (by kernel_rfl) (some 16) rfl (.pointer (some ⟨g, o, none⟩)) V (by kernel_rfl) ?_
   exact ⟨b0, true, b2, b3, b4, b5, b6, b7, b8, b9, b10, b11, x22, x23, rfl, rfl, hF⟩
  ·obtain rfl : b2 = false := ready_self hr
   obtain rfl : b1 = true := ready_dep hr 1 (by kernel_rfl)
   refine st_val rfl (by kernel_rfl) (some 17) rfl (.pointer (some ⟨g, o, none⟩)) V (by kernel_rfl) ?_
   exact ⟨b0, true, true, b3, b4, b5, b6, b7, b8, b9, b10, b11, x22, x23, rfl, rfl, hF⟩
  ·obtain rfl : b3 = false := ready_self hr
   obtain rfl : b2 = true := ready_dep hr 2 (by kernel_rfl)
   refine st_val rfl (by kernel_rfl) (some 18) rfl (.pointer (some ⟨g, o + 1, none⟩)) V (by kernel_rfl) ?_
   exact ⟨b0, b1, true, true, b4, b5, b6, b7, b8, b9, b10, b11, x22, x23, rfl, rfl, hF⟩
  ·obtain rfl : b4 = false := ready_self hr
   obtain rfl : b3 = true := ready_dep hr 3 (by kernel_rfl)
   obtain rfl : b8 = false := hF.n8
   refine st_load rfl (by kernel_rfl) (some 19) rfl 52 (.tmp 18) rfl ⟨g, o + 1, none⟩ (v) (by kernel_rfl) ((HXV.out.below HXV.out.lt (hF.pre rfl)).load (i := o + 1) HO1.out (by kernel_rfl)) ?_
   exact ⟨b0, b1, b2, true, true, b5, b6, b7, false, b9, b10, b11, _, _, rfl, rfl, hF.s4⟩
  ·obtain rfl : b5 = false := ready_self hr
   refine st_val rfl (by kernel_rfl) (some 20) rfl (.int .i64 ct) V (by kernel_rfl) ?_
   exact ⟨b0, b1, b2, b3, b4, true, b6, b7, b8, b9, b10, b11, x22, x23, rfl, rfl, hF⟩
  ·obtain rfl : b6 = false := ready_self hr
   obtain rfl : b7 = false := hF.n6
   obtain rfl : b8 = false := hF.n7
   refine st_load rfl (by kernel_rfl) (some 21) rfl 62 (.tmp 3) rfl ⟨g3, 0, none⟩ (.agg (enA q)) (by kernel_rfl) (load_enb (HX3.out.below HX3.out.lt (hF.pre rfl))) ?_
   exact ⟨b0, b1, b2, b3, b4, b5, true, false, false, b9, b10, b11, _, _, rfl, rfl, hF.s6⟩
  ·obtain rfl : b7 = false := ready_self hr
   obtain rfl : b6 = true := ready_dep hr 6 (by kernel_rfl)
   obtain rfl : b8 = false := hF.n7
   refine st_build rfl (by kernel_rfl) (some 22) rfl 52 1 #[(0, .tmp 21)] rfl #[(0, .agg (enA q))] (by kernel_rfl) (.slice (some ⟨V.heap.size, 0, none⟩) 1 1) _ (build_en q V) ?_
   exact ⟨b0, b1, b2, b3, b4, b5, true, true, false, b9, b10, b11, _, _, rfl, rfl, hF.s7⟩
  ·obtain rfl : b8 = false := ready_self hr
   obtain rfl : b4 = true := ready_dep hr 4 (by kernel_rfl)
   obtain rfl : b5 = true := ready_dep hr 5 (by kernel_rfl)
   obtain rfl : b7 = true := ready_dep hr 7 (by kernel_rfl)
   obtain rfl : b11 = false := hF.n11
   obtain ⟨gq, rfl, hgx, hge⟩ := hF.bld rfl rfl
   refine st_call rfl (by kernel_rfl) (some 23) rfl 34 #[v, .int .i64 ct, .slice (some ⟨gq, 0, none⟩) 1 1] (by kernel_rfl) ((HCI.out V gq (hF.pre rfl) hgx hge).mono fun e9 V9 hq9 => ?_)
   obtain ⟨v9, rfl, h1, h2, h3⟩ := hq9
   refine ⟨v9, rfl, ?_⟩
   exact ⟨b0, b1, b2, b3, true, true, b6, true, true, b9, b10, false, _, _, rfl, rfl, hF.s8 (MiA.ins HXV.out HRV.out (hF.pre rfl) h1 h2 h3)⟩
  ·obtain rfl : b9 = false := ready_self hr
   obtain rfl : b0 = true := ready_dep hr 0 (by kernel_rfl)
   refine st_val rfl (by kernel_rfl) (some 24) rfl (.pointer (some ⟨g, o, none⟩)) V (by kernel_rfl) ?_
   exact ⟨true, b1, b2, b3, b4, b5, b6, b7, b8, true, b10, b11, x22, x23, rfl, rfl, hF⟩
  ·obtain rfl : b10 = false := ready_self hr
   obtain rfl : b9 = true := ready_dep hr 9 (by kernel_rfl)
   refine st_val rfl (by kernel_rfl) (some 25) rfl (.pointer (some ⟨g, o + 1, none⟩)) V (by kernel_rfl) ?_
   exact ⟨b0, b1, b2, b3, b4, b5, b6, b7, b8, true, true, b11, x22, x23, rfl, rfl, hF⟩
  ·obtain rfl : b11 = false := ready_self hr
   obtain rfl : b8 = true := ready_dep hr 8 (by kernel_rfl)
   obtain rfl : b10 = true := ready_dep hr 10 (by kernel_rfl)
   obtain ⟨V9, hst9, hf9⟩ := (hF.mid rfl rfl).fin HOS.out
   refine st_stv rfl (by kernel_rfl) rfl 52 (.tmp 25) (.tmp 23) rfl (.pointer (some ⟨g, o + 1, none⟩)) x23 (by kernel_rfl) (by kernel_rfl) V9 hst9 ?_
   exact ⟨b0, b1, b2, b3, b4, b5, b6, b7, true, b9, true, true, _, _, rfl, rfl, hF.s11 hf9⟩
 ·intro act9 V hJ
  obtain ⟨b0, b1, b2, b3, b4, b5, b6, b7, b8, b9, b10, b11, x22, x23, he, rfl, hF⟩ := hJ
  have he : (#[true, true, true, true, true, true, true, true, true, true, true, true] : Array Bool) = #[b0, b1, b2, b3, b4, b5, b6, b7, b8, b9, b10, b11] := he
  simp only [Array.mk.injEq, List.cons.injEq, and_true] at he
  obtain ⟨rfl, rfl, rfl, rfl, rfl, rfl, rfl, rfl, rfl, rfl, rfl, rfl⟩ := he
  simp only [cond_true]
  have HE := Lib.hid ((hF.fin rfl).mono HB0.out)
  clear hF h0
  go_wp2_with fail
  first | exact end_none rfl rfl ⟨rfl, HE.out⟩ | exact bodyPost_ret (v := .tuple #[]) (by kernel_rfl) rfl ⟨rfl, HE.out⟩ | exact bodyPost_ret (v := .tuple #[]) (by simp [results]) rfl ⟨rfl, HE.out⟩
set_option maxRecDepth 100000 in
set_option maxHeartbeats 8000000 in
theorem q_lrem {w : World} {g o : Nat} {cs : Array Value} {v : Value} {E : List Eo} (hX : Bx w g cs 56) (ho1 : cs[o + 1]? = some v) (hr : Rowen w 0 v E) (hl : E.length ≤ 9000) (hs : SrtE E) (q : Eo) (hlt : cntE E q < E.length) : Calls Try.prog 22 #[.pointer (some ⟨g, o, none⟩), .agg (enA q)] w fun e w' => e = .returned (.tuple #[]) ∧ LaO w g o cs v (E.take (cntE E q) ++ E.drop (cntE E q + 1)) w' := by
 have hb0 : Below w.heap.size w (w.alloc (.cells (enA q) 62)) := (Below.refl _ w).alloc (Nat.le_refl _) _
 have hX0 : Bx (w.alloc (.cells (enA q) 62)) w.heap.size (enA q) 62 := heap_alloc_last w _
 obtain ⟨W, hW⟩ : ∃ W, w.alloc (.cells (enA q) 62) = W := ⟨_, rfl⟩
 rw [hW] at hb0 hX0
 have hXg := hX.below hX.lt hb0
 have hr1 := hr.below hb0
 have CP := fun V (hV : Below W.heap.size W V) => q_place (hr1.below hV) hs (by omega) q
 have CI := fun V (hV : Below W.heap.size W V) => q_del (hr1.below hV) hlt (by omega)
 obtain ⟨E2, hE2⟩ : ∃ E2, E.take (cntE E q) ++ E.drop (cntE E q + 1) = E2 := ⟨_, rfl⟩
 simp only [hE2] at CI
 rw [hE2]
 have hct2 : cntE E q ≤ 9000 := Nat.le_trans (cnt_le E q) hl
 obtain ⟨ct, hct⟩ : ∃ ct, cntE E q = ct := ⟨_, rfl⟩
 simp only [hct] at CI CP hct2
 obtain ⟨hb9, hhb⟩ : ∃ b, hasE E q = b := ⟨_, rfl⟩
 simp only [hhb] at CP
 obtain ⟨g3, hg3⟩ : ∃ g3, w.heap.size = g3 := ⟨_, rfl⟩
 rw [hg3] at hX0
 have hosz := (Array.getElem?_eq_some_iff.1 ho1).1
 have HOS := Lib.hid hosz
 have HCT := Lib.hid hct2
 have HCI := Lib.hid CI
 have HXV := Lib.hid hXg
 have HRV := Lib.hid hr1
 have HX3 := Lib.hid hX0
 have HO1 := Lib.hid ho1
 have HB0 := Lib.hid hb0
 clear hE2 hct hhb hct2 hosz hX hr hl hs hlt CI
 go_enter Try.func22, Try.ntmps22
 go_upto_region 1 with fail
 clear hW hg3
 refine wp_region_class (C := fun U => Below W.heap.size W U) (by kernel_rfl) (by kernel_rfl) ((Below.refl _ W).drew) ?_
 refine gy (.pointer (some ⟨g, o, none⟩)) <| gy (.pointer (some ⟨g, o, none⟩)) <| gy (.pointer (some ⟨g, o + 1, none⟩)) <| gyl rfl ⟨g, o + 1, none⟩ (v) (fun U hU => (hXg.below hXg.lt hU).load (i := o + 1) ho1 (by kernel_rfl)) <|
   gyl rfl ⟨g3, 0, none⟩ (.agg (enA q)) (fun U hU => load_enb (hX0.below hX0.lt hU)) ?_
 simp only [pu]
 refine gq_call (by kernel_rfl) (some 12) rfl 28 #[v, .agg (enA q), .func (.func 29) #[] #[]] (.tuple #[.int .i64 ct, .bool hb9]) (fun U hU => by kernel_rfl) (fun U hU => (CP U hU).mono fun e w2 z => ⟨z.1, hU.trans (z.2.mono hU.size)⟩) ?_
 simp only [pu]
 refine gy (.tuple #[.int .i64 ct, .bool hb9]) <| gy (.int .i64 ct) <| gy (.bool hb9) <| gy (.int .i64 ct) <| gy (.bool hb9) ?_
 simp only [pu]
 apply wpQuiet_nil
 intro V1 hV1
 have HV1 := Lib.hid hV1
 clear hV1 hXg hr1 hX0 hb0 CP ho1
 have CD := HCI.out V1 HV1.out
 have hXV := HXV.out.below HXV.out.lt HV1.out
 go_upto_region 2 with fail
 refine wl <| gz4 (.pointer (some ⟨g, o, none⟩)) (.pointer (some ⟨g, o, none⟩)) (.pointer (some ⟨g, o, none⟩)) (.pointer (some ⟨g, o + 1, none⟩)) <| gzl rfl ⟨g, o + 1, none⟩ (v) (hXV.load (i := o + 1) HO1.out (by kernel_rfl)) <| gz2 (.int .i64 ct) (.int .i64 ct) <|
  gzv (.int .i64 (ct + 1 : Nat)) (add_one rfl ct (by have := HCT.out; omega) (by kernel_rfl) _) <| gze (fun u w' => Rowen w' 0 u E2 ∧ V1.grownBy w' v.ownBlock ∧ (u.ownBlock = v.ownBlock ∨ ∃ j, V1.heap.size ≤ j ∧ u.ownBlock = some j)) CD (fun x23 V2 hq2 => ?_)
 obtain ⟨h1, h2, h3⟩ := hq2
 obtain ⟨V9, hst9, hf9⟩ := (MiA.ins HXV.out HRV.out HV1.out h1 h2 h3).fin HOS.out
 have HE := Lib.hid (hf9.mono HB0.out)
 clear h1 h2 h3 hf9 HRV
 simp only [pu]
 refine gz2 (.pointer (some ⟨g, o, none⟩)) (.pointer (some ⟨g, o + 1, none⟩)) <| gzs rfl (hst9) <| wn ?_
 simp only [pu]
 clear hst9
 go_wp2_with fail
 first | exact end_none rfl rfl ⟨rfl, HE.out⟩ | exact bodyPost_ret (v := .tuple #[]) (by kernel_rfl) rfl ⟨rfl, HE.out⟩ | exact bodyPost_ret (v := .tuple #[]) (by simp [results]) rfl ⟨rfl, HE.out⟩
end Go.Proofs.Ytdjphghoollejaa
