/-
  The walk of LedgerGets.
-/
import Derived.Test.YtebnlklodokhkaaLX
namespace Go.Proofs.Ytebnlklodokhkaa
open Go.RowKit
set_option linter.unusedSimpArgs false
set_option linter.unusedVariables false

def five (s : ByteArray) : List ByteArray := [s, ⟨#[97, 110, 110]⟩, ⟨#[110, 101, 119]⟩, ⟨#[122, 111, 101]⟩, ⟨#[]⟩]
theorem build_five (s : ByteArray) (V : World) : (Instr.buildSlice 45 5 #[(0, .string s), (1, .string ⟨#[97, 110, 110]⟩), (2, .string ⟨#[110, 101, 119]⟩), (3, .string ⟨#[122, 111, 101]⟩), (4, .string ⟨#[]⟩)]).run Try.prog V = .ok (.slice (some ⟨V.heap.size, 0, none⟩) 5 5) (V.alloc (.cells (strs (five s)).toArray 9)) := by
  obtain ⟨i0, hi, hz0, hz1, hz2⟩ := info_parts infoSt
  refine run_buildSlice V 45 9 5 _ (strs (five s)).toArray i0 _ Try.underlying45 hi hz0 (by rw [hz1]; omega) (by rw [hz1]; omega) ?_
  rw [hz1]
  kernel_rfl
theorem neq_bb {ρ : Operand → Value} {o : Oper} {x y : Operand} (ho : o.op = .binOp .neq 4 x y 4) (a : Bool) (hx : ρ x = .bool a) (hy : ρ y = .bool a) (w : World) : (execOp ρ o).run Try.prog w = .ok (.value (.bool false)) w := by
  unfold execOp
  simp only [ho, hx, hy]
  cases a <;> go_simp
set_option maxRecDepth 100000 in
set_option maxHeartbeats 8000000 in
theorem gets_core (la : Option Addr) (lk : Nat) (A : List Ac) (lc : Int) (s : ByteArray) (ak : Option Addr) (ck : Nat) (L : List Int) (w : World) (hla : Cs w la (acc A)) (hn : A.length ≤ 4398046511104) (hck : Cs w ak (icells L)) (hl : L.length ≤ 9223372036854775807) :
    Calls Try.prog 6 #[.agg (lgA la A.length lk lc), .string s, .slice ak L.length ck] w fun e w' => e = .returned (.bool true) ∧ Below w.heap.size w w' := by
  have HK := Lib.hid (fun (V : World) (h : Below w.heap.size w V) => (known_true V).mono fun e w' (q : e = .returned (.bool true) ∧ Below V.heap.size V w') => (⟨q.1, h.trans (q.2.mono h.size)⟩ : e = .returned (.bool true) ∧ Below w.heap.size w w'))
  have hb0 : Below w.heap.size w (w.alloc (.cells (lgA la A.length lk lc) 25)) := (Below.refl _ w).alloc (Nat.le_refl _) _
  have hX0 : Bx (w.alloc (.cells (lgA la A.length lk lc) 25)) w.heap.size (lgA la A.length lk lc) 25 := heap_alloc_last w _
  have HNL := Lib.hid hl
  have HAL := Lib.hid hn
  have HLA := Lib.hid (hla.below hb0)
  have HCK := Lib.hid (hck.below hb0)
  clear hla hck hl hn
  go_enter Try.func6, Try.ntmps6
  go_upto_region 1 with fail
  change Code.wp _ _ _ _ (w.alloc (.cells (lgA la A.length lk lc) 25))
  generalize w.alloc (.cells (lgA la A.length lk lc) 25) = W at *
  obtain ⟨g0, hg0⟩ : ∃ g0, w.heap.size = g0 := ⟨_, rfl⟩
  have HB0 := Lib.hid hb0
  rw [hg0] at hX0
  simp only [hg0]
  have HX := Lib.hid hX0
  clear hb0 hX0 hg0
  have CLn := long_one W.heap.size ak L.length ck (W.alloc (.cells #[.slice ak L.length ck] 26)) (heap_alloc_last W _) HNL.out
  have hor := one_row ak L.length ck W
  have hb1 : Below W.heap.size W (W.alloc (.cells #[.slice ak L.length ck] 26)) := (Below.refl _ W).alloc (Nat.le_refl _) _
  generalize W.alloc (.cells #[.slice ak L.length ck] 26) = W1 at *
  have HB1 := Lib.hid (HB0.out.trans (hb1.mono HB0.out.size))
  have HCK1 := Lib.hid (HCK.out.below hb1)
  have HLA1 := Lib.hid (HLA.out.below hb1)
  have HX1 := Lib.hid (HX.out.below HX.out.lt hb1)
  by_cases hlong : 160 < L.length
  · skip
    rw [decide_eq_true (by omega)] at CLn
    apply wp_region_lit
    refine gw_val (by kernel_rfl) (some 18) rfl (.slice ak L.length ck) (by kernel_rfl) ?_
    simp only [pu1, pu2, pu3, pu4]
    refine gw_build (by kernel_rfl) (some 19) rfl 54 1 #[(0, .tmp 18)] rfl #[(0, .slice ak L.length ck)] (by kernel_rfl) (.slice (some ⟨W.heap.size, 0, none⟩) 1 1) _ hor ?_
    simp only [pu1, pu2, pu3, pu4]
    refine gw_call (by kernel_rfl) (some 20) rfl 8 #[.slice (some ⟨W.heap.size, 0, none⟩) 1 1] (.bool true) (fun w' => W1 = w') (by kernel_rfl) (CLn) (fun V9 hV9 => ?_)
    subst hV9
    simp only [pu1, pu2, pu3, pu4]
    refine gw_val (by kernel_rfl) (some 21) rfl (.bool true) (by kernel_rfl) ?_
    simp only [pu1, pu2, pu3, pu4]
    with_reducible refine gw_not (by kernel_rfl) (some 22) rfl ?_
    simp only [pu1, pu2, pu3, pu4]
    with_reducible refine gw_not (by kernel_rfl) (some 23) rfl ?_
    simp only [pu1, pu2, pu3, pu4]
    with_reducible refine gw_not (by kernel_rfl) (some 24) rfl ?_
    simp only [pu1, pu2, pu3, pu4]
    refine gw_val (by kernel_rfl) (some 25) rfl (.bool true) (by kernel_rfl) ?_
    simp only [pu1, pu2, pu3, pu4]
    refine gw_val (by kernel_rfl) (some 26) rfl (.bool true) (by kernel_rfl) ?_
    simp only [pu1, pu2, pu3, pu4]
    with_reducible refine gw_not (by kernel_rfl) (some 27) rfl ?_
    simp only [pu1, pu2, pu3, pu4]
    with_reducible refine gw_not (by kernel_rfl) (some 28) rfl ?_
    simp only [pu1, pu2, pu3, pu4]
    with_reducible refine gw_not (by kernel_rfl) (some 29) rfl ?_
    simp only [pu1, pu2, pu3, pu4]
    refine gw_val (by kernel_rfl) (some 30) rfl (.bool true) (by kernel_rfl) ?_
    simp only [pu1, pu2, pu3, pu4]
    apply wpList_nil
    clear CLn hor
    go_upto_region 2 with fail
    apply wp_region_lit
    refine gw_call (by kernel_rfl) (some 31) rfl 10 #[] (.bool true) (fun w' => Below w.heap.size w w') (by kernel_rfl) (HK.out W1 (HB1.out)) (fun V9 hV9 => ?_)
    simp only [pu1, pu2, pu3, pu4]
    refine gw_val (by kernel_rfl) (some 6) rfl (.bool true) (by kernel_rfl) ?_
    simp only [pu1, pu2, pu3, pu4]
    apply wpList_nil
    have HE := Lib.hid hV9
    clear hV9
    go_wp2_with fail
    go_ret
    exact ⟨rfl, HE.out⟩
  · skip
    rw [decide_eq_false (by omega)] at CLn
    have CB := big_any la lk A W1 HLA1.out HAL.out
    have hb2x : True := trivial
    apply wp_region_lit
    refine gw_val (by kernel_rfl) (some 18) rfl (.slice ak L.length ck) (by kernel_rfl) ?_
    simp only [pu1, pu2, pu3, pu4]
    refine gw_build (by kernel_rfl) (some 19) rfl 54 1 #[(0, .tmp 18)] rfl #[(0, .slice ak L.length ck)] (by kernel_rfl) (.slice (some ⟨W.heap.size, 0, none⟩) 1 1) _ hor ?_
    simp only [pu1, pu2, pu3, pu4]
    refine gw_call (by kernel_rfl) (some 20) rfl 8 #[.slice (some ⟨W.heap.size, 0, none⟩) 1 1] (.bool false) (fun w' => W1 = w') (by kernel_rfl) (CLn) (fun V9 hV9 => ?_)
    subst hV9
    simp only [pu1, pu2, pu3, pu4]
    refine gw_val (by kernel_rfl) (some 21) rfl (.bool false) (by kernel_rfl) ?_
    simp only [pu1, pu2, pu3, pu4]
    refine gw_val (by kernel_rfl) (some 22) rfl (.pointer (some ⟨g0, 0, none⟩)) (by kernel_rfl) ?_
    simp only [pu1, pu2, pu3, pu4]
    refine gw_load (by kernel_rfl) (some 23) rfl 22 (.tmp 22) rfl ⟨g0, 0, none⟩ (.slice la A.length lk) (by kernel_rfl) (HX1.out.load (i := 0) rfl (by kernel_rfl)) ?_
    simp only [pu1, pu2, pu3, pu4]
    refine gw_callE (by kernel_rfl) (some 24) rfl 9 #[.slice la A.length lk] (fun v w' => ∃ b, v = .bool b ∧ Below W1.heap.size W1 w') (by kernel_rfl) (CB.mono fun e w' q => by obtain ⟨⟨b, h1⟩, h2⟩ := q; exact ⟨_, h1, b, rfl, h2⟩) (fun vv W2 hq => ?_)
    obtain ⟨bg, rfl, hb2⟩ := hq
    simp only [pu1, pu2, pu3, pu4]
    have HB2 := Lib.hid (HB1.out.trans (hb2.mono HB1.out.size))
    have HCK2 := Lib.hid (HCK1.out.below hb2)
    have HLA2 := Lib.hid (HLA1.out.below hb2)
    have HX2 := Lib.hid (HX1.out.below HX1.out.lt hb2)
    clear CB hb2x CLn hor hb1 hb2 HB1 HCK1 HLA1 HX1 HB0 HCK HLA HX
    cases bg
    · skip
      obtain ⟨sz, hsz⟩ : ∃ sz, s.size = sz := ⟨_, rfl⟩
      by_cases hs60 : 60 < sz
      · skip
        refine gw_val (by kernel_rfl) (some 25) rfl (.bool false) (by kernel_rfl) ?_
        simp only [pu1, pu2, pu3, pu4]
        refine gw_val (by kernel_rfl) (some 26) rfl (.bool false) (by kernel_rfl) ?_
        simp only [pu1, pu2, pu3, pu4]
        refine gw_val (by kernel_rfl) (some 27) rfl (.string s) (by kernel_rfl) ?_
        simp only [pu1, pu2, pu3, pu4]
        refine gw_val (by kernel_rfl) (some 28) rfl (.int .i64 sz) (by rw [← hsz]; kernel_rfl) ?_
        simp only [pu1, pu2, pu3, pu4]
        refine gw_val (by kernel_rfl) (some 29) rfl (.bool true) (gtr_n rfl (sz) (60) (decide_eq_true (by omega)) (by kernel_rfl) (by kernel_rfl) _) ?_
        simp only [pu1, pu2, pu3, pu4]
        refine gw_val (by kernel_rfl) (some 30) rfl (.bool true) (by kernel_rfl) ?_
        simp only [pu1, pu2, pu3, pu4]
        apply wpList_nil
        go_upto_region 2 with fail
        apply wp_region_lit
        refine gw_call (by kernel_rfl) (some 31) rfl 10 #[] (.bool true) (fun w' => Below w.heap.size w w') (by kernel_rfl) (HK.out W2 (HB2.out)) (fun V9 hV9 => ?_)
        simp only [pu1, pu2, pu3, pu4]
        refine gw_val (by kernel_rfl) (some 6) rfl (.bool true) (by kernel_rfl) ?_
        simp only [pu1, pu2, pu3, pu4]
        apply wpList_nil
        have HE := Lib.hid hV9
        clear hV9
        go_wp2_with fail
        go_ret
        exact ⟨rfl, HE.out⟩
      · skip
        refine gw_val (by kernel_rfl) (some 25) rfl (.bool false) (by kernel_rfl) ?_
        simp only [pu1, pu2, pu3, pu4]
        refine gw_val (by kernel_rfl) (some 26) rfl (.bool false) (by kernel_rfl) ?_
        simp only [pu1, pu2, pu3, pu4]
        refine gw_val (by kernel_rfl) (some 27) rfl (.string s) (by kernel_rfl) ?_
        simp only [pu1, pu2, pu3, pu4]
        refine gw_val (by kernel_rfl) (some 28) rfl (.int .i64 sz) (by rw [← hsz]; kernel_rfl) ?_
        simp only [pu1, pu2, pu3, pu4]
        refine gw_val (by kernel_rfl) (some 29) rfl (.bool false) (gtr_n rfl (sz) (60) (decide_eq_false (by omega)) (by kernel_rfl) (by kernel_rfl) _) ?_
        simp only [pu1, pu2, pu3, pu4]
        refine gw_val (by kernel_rfl) (some 30) rfl (.bool false) (by kernel_rfl) ?_
        simp only [pu1, pu2, pu3, pu4]
        apply wpList_nil
        have CM := made_any ak ck L W2 HCK2.out (by omega)
        clear hsz hs60
        go_upto_region 3 with fail
        apply wp_region_lit
        refine gw_val (by kernel_rfl) (some 32) rfl (.slice ak L.length ck) (by kernel_rfl) ?_
        simp only [pu1, pu2, pu3, pu4]
        refine gw_callE (by kernel_rfl) (some 33) rfl 11 #[.slice ak L.length ck] (fun v w' => ∃ ad kk P c, v = .agg (lgA ad (List.length P) kk c) ∧ Cs w' ad (acc P) ∧ P.length ≤ kk ∧ LQ P c ∧ Below W2.heap.size W2 w') (by kernel_rfl) (CM.mono fun e w' q => by obtain ⟨ad, kk, P, c, h1, h2⟩ := q; exact ⟨_, h1, ad, kk, P, c, rfl, h2⟩) (fun vv W3 hq => ?_)
        obtain ⟨ma, mk, P, mc, rfl, hcm, hkm, hlq, hb3⟩ := hq
        obtain ⟨W4, hst4, hb4, hbx4⟩ := new_lg W3 ma P.length mk mc
        simp only [pu1, pu2, pu3, pu4]
        refine run_to rfl (some 7) rfl (.pointer (some ⟨W3.heap.size, 0, none⟩)) (W3.alloc (.cells (lgA none 0 0 0) 25)) (by kernel_rfl) ?_
        simp only [pu1, pu2, pu3, pu4]
        refine gw_store (by kernel_rfl) rfl 25 (.tmp 7) (.tmp 33) rfl (.pointer (some ⟨W3.heap.size, 0, none⟩)) (.agg (lgA ma P.length mk mc)) (by kernel_rfl) (by kernel_rfl) (W4) (hst4) ?_
        apply wpList_nil
        obtain ⟨g7, hg7⟩ : ∃ g7, W3.heap.size = g7 := ⟨_, rfl⟩
        have hb34 := hb3.trans (hb4.mono hb3.size)
        have hbu := build_five s W4
        have hb5 : Below W4.heap.size W4 (W4.alloc (.cells (strs (five s)).toArray 9)) := (Below.refl _ W4).alloc (Nat.le_refl _) _
        have hX5 : Bx (W4.alloc (.cells (strs (five s)).toArray 9)) W4.heap.size (strs (five s)).toArray 9 := heap_alloc_last W4 _
        generalize W4.alloc (.cells (strs (five s)).toArray 9) = W5 at *
        have hb25 := hb34.trans (hb5.mono hb34.size)
        have HB5 := Lib.hid (HB2.out.trans (hb25.mono HB2.out.size))
        have HLA5 := Lib.hid (HLA2.out.below hb25)
        have HX5 := Lib.hid (HX2.out.below HX2.out.lt hb25)
        have HX7 := Lib.hid (hbx4.below hbx4.lt hb5)
        have HMA := Lib.hid (hcm.below (hb4.trans (hb5.mono hb4.size)))
        have HLQ := Lib.hid hlq
        obtain ⟨g8, hg8⟩ : ∃ g8, W4.heap.size = g8 := ⟨_, rfl⟩
        rw [hg7] at HX7 ⊢
        rw [hg8] at hX5 hbu
        have HX8 := Lib.hid hX5
        have HF5 : Hid ((five s).length = 5) := Lib.hid rfl
        generalize five s = S5 at *
        clear CM hcm hkm hlq hb3 hb4 hbx4 hb34 hb5 hb25 hX5 hg7 hg8 hst4 HB2 HCK2 HLA2 HX2
        go_upto_region 4 with fail
        apply wp_region_lit
        refine gw_val (by kernel_rfl) (some 34) rfl (.string s) (by kernel_rfl) ?_
        simp only [pu1, pu2, pu3, pu4]
        refine gw_build (by kernel_rfl) (some 35) rfl 45 5 #[(0, .tmp 34), (1, .const (.string ⟨#[97, 110, 110]⟩)), (2, .const (.string ⟨#[110, 101, 119]⟩)), (3, .const (.string ⟨#[122, 111, 101]⟩)), (4, .const (.string ⟨#[]⟩))] rfl #[(0, .string s), (1, .string ⟨#[97, 110, 110]⟩), (2, .string ⟨#[110, 101, 119]⟩), (3, .string ⟨#[122, 111, 101]⟩), (4, .string ⟨#[]⟩)] (by kernel_rfl) (.slice (some ⟨g8, 0, none⟩) 5 5) _ hbu ?_
        simp only [pu1, pu2, pu3, pu4]
        refine gw_val (by kernel_rfl) (some 36) rfl (.int .i64 5) (by kernel_rfl) ?_
        simp only [pu1, pu2, pu3, pu4]
        refine gw_val (by kernel_rfl) (some 37) rfl (.int .i64 0) (by kernel_rfl) ?_
        simp only [pu1, pu2, pu3, pu4]
        apply wpList_nil
        clear hbu
        go_wp2_with fail
        go_loopg [37] 5 (fun gg s37 wx => ∃ j : Nat, s37 = .int .i64 j ∧ j ≤ 5 ∧ Hid (Below W5.heap.size W5 wx) ∧ 5 - j = gg)
        case atStart => exact ⟨0, rfl, by omega, Lib.hid (Below.refl _ _), by omega⟩
        case round =>
          obtain ⟨j, rfl, hj, HB, hg⟩ := hrel
          have HG := Lib.hid hg
          clear hg
          have HBW := Lib.hid (HB5.out.trans (HB.out.mono HB5.out.size))
          by_cases hlt : j < 5
          · skip
            obtain ⟨nm, hnm⟩ : ∃ nm, S5.getD j mtS = nm := ⟨_, rfl⟩
            have HLS : Hid ((Instr.loadAt 9 (.pointer (some ⟨g8, 0 + j, none⟩))).run Try.prog wr = .ok (.string nm) wr) := Lib.hid (by rw [← hnm]; exact load_str (HX8.out.below HX8.out.lt HB.out) (by rw [HF5.out]; exact hlt))
            have C1 := q_get la lk A lc nm wr (HLA5.out.below HB.out) HAL.out
            clear hnm
            go_upto_region 5 with fail
            apply wp_region_lit
            refine gw_val (by kernel_rfl) (some 38) rfl (.bool true) (lss_n rfl (j) (5) (decide_eq_true (by omega)) (by kernel_rfl) (by kernel_rfl) _) ?_
            simp only [pu1, pu2, pu3, pu4]
            apply wpList_nil
            go_upto_region 6 with fail
            apply wp_region_lit
            refine gw_val (by kernel_rfl) (some 39) rfl (.pointer (some ⟨g8, 0 + j, none⟩)) (idx_str g8 0 5 5 j hlt _ _ _ rfl (by kernel_rfl) (by kernel_rfl)) ?_
            simp only [pu1, pu2, pu3, pu4]
            refine gw_load (by kernel_rfl) (some 40) rfl 9 (.tmp 39) rfl ⟨g8, 0 + j, none⟩ (.string nm) (by kernel_rfl) (HLS.out) ?_
            simp only [pu1, pu2, pu3, pu4]
            refine gw_val (by kernel_rfl) (some 9) rfl (.string nm) (by kernel_rfl) ?_
            simp only [pu1, pu2, pu3, pu4]
            apply wpList_nil
            clear HLS
            obtain ⟨r, hr⟩ : ∃ r, getX A nm = r := ⟨_, rfl⟩
            rw [hr] at C1
            obtain ⟨rp, hrp⟩ : ∃ rp, getX P nm = rp := ⟨_, rfl⟩
            go_upto_region 7 with fail
            apply wp_region_lit
            refine gw_load (by kernel_rfl) (some 42) rfl 25 (.tmp 3) rfl ⟨g0, 0, none⟩ (.agg (lgA la A.length lk lc)) (by kernel_rfl) (load_lg (HX5.out.below HX5.out.lt HB.out)) ?_
            simp only [pu1, pu2, pu3, pu4]
            refine gw_val (by kernel_rfl) (some 43) rfl (.string nm) (by kernel_rfl) ?_
            simp only [pu1, pu2, pu3, pu4]
            refine gw_call (by kernel_rfl) (some 44) rfl 22 #[.agg (lgA la A.length lk lc), .string nm] (.tuple #[.agg (acA r.1), .bool r.2]) (fun w' => Below wr.heap.size wr w') (by kernel_rfl) (C1) (fun U7 hc7 => ?_)
            obtain ⟨V7, hst7, hbb7, hbx7⟩ := new_ac U7 r.1
            simp only [pu1, pu2, pu3, pu4]
            refine gw_val (by kernel_rfl) (some 41) rfl (.tuple #[.agg (acA r.1), .bool r.2]) (by kernel_rfl) ?_
            simp only [pu1, pu2, pu3, pu4]
            refine gw_val (by kernel_rfl) (some 45) rfl (.agg (acA r.1)) (by kernel_rfl) ?_
            simp only [pu1, pu2, pu3, pu4]
            refine gw_val (by kernel_rfl) (some 46) rfl (.bool r.2) (by kernel_rfl) ?_
            simp only [pu1, pu2, pu3, pu4]
            refine run_to rfl (some 10) rfl (.pointer (some ⟨U7.heap.size, 0, none⟩)) (U7.alloc (.cells (acA zAc) 28)) (by kernel_rfl) ?_
            simp only [pu1, pu2, pu3, pu4]
            refine gw_store (by kernel_rfl) rfl 28 (.tmp 10) (.tmp 45) rfl (.pointer (some ⟨U7.heap.size, 0, none⟩)) (.agg (acA r.1)) (by kernel_rfl) (by kernel_rfl) (V7) (hst7) ?_
            refine gw_val (by kernel_rfl) (some 11) rfl (.bool r.2) (by kernel_rfl) ?_
            simp only [pu1, pu2, pu3, pu4]
            apply wpList_nil
            obtain ⟨gg10, hgs10⟩ : ∃ g, U7.heap.size = g := ⟨_, rfl⟩
            rw [hgs10] at hbx7 ⊢
            have HB7n := Lib.hid ((HB.out).trans ((hc7.trans (hbb7.mono hc7.size)).mono (HB.out).size))
            have HA10 := Lib.hid hbx7
            clear hst7 hgs10 hbx7 hc7 hbb7 C1
            have C2 := ref_get la lk A lc nm V7 (HLA5.out.below HB7n.out) HAL.out
            rw [hr] at C2
            go_upto_region 8 with fail
            apply wp_region_lit
            refine gw_load (by kernel_rfl) (some 48) rfl 25 (.tmp 3) rfl ⟨g0, 0, none⟩ (.agg (lgA la A.length lk lc)) (by kernel_rfl) (load_lg (HX5.out.below HX5.out.lt HB7n.out)) ?_
            simp only [pu1, pu2, pu3, pu4]
            refine gw_val (by kernel_rfl) (some 49) rfl (.string nm) (by kernel_rfl) ?_
            simp only [pu1, pu2, pu3, pu4]
            refine gw_call (by kernel_rfl) (some 50) rfl 23 #[.agg (lgA la A.length lk lc), .string nm] (.tuple #[.agg (acA r.1), .bool r.2]) (fun w' => Below V7.heap.size V7 w') (by kernel_rfl) (C2) (fun U8 hc8 => ?_)
            obtain ⟨V8, hst8, hbb8, hbx8⟩ := new_ac U8 r.1
            simp only [pu1, pu2, pu3, pu4]
            refine gw_val (by kernel_rfl) (some 47) rfl (.tuple #[.agg (acA r.1), .bool r.2]) (by kernel_rfl) ?_
            simp only [pu1, pu2, pu3, pu4]
            refine gw_val (by kernel_rfl) (some 51) rfl (.agg (acA r.1)) (by kernel_rfl) ?_
            simp only [pu1, pu2, pu3, pu4]
            refine gw_val (by kernel_rfl) (some 52) rfl (.bool r.2) (by kernel_rfl) ?_
            simp only [pu1, pu2, pu3, pu4]
            refine run_to rfl (some 12) rfl (.pointer (some ⟨U8.heap.size, 0, none⟩)) (U8.alloc (.cells (acA zAc) 28)) (by kernel_rfl) ?_
            simp only [pu1, pu2, pu3, pu4]
            refine gw_store (by kernel_rfl) rfl 28 (.tmp 12) (.tmp 51) rfl (.pointer (some ⟨U8.heap.size, 0, none⟩)) (.agg (acA r.1)) (by kernel_rfl) (by kernel_rfl) (V8) (hst8) ?_
            refine gw_val (by kernel_rfl) (some 13) rfl (.bool r.2) (by kernel_rfl) ?_
            simp only [pu1, pu2, pu3, pu4]
            apply wpList_nil
            obtain ⟨gg12, hgs12⟩ : ∃ g, U8.heap.size = g := ⟨_, rfl⟩
            rw [hgs12] at hbx8 ⊢
            have HB8n := Lib.hid ((HB7n.out).trans ((hc8.trans (hbb8.mono hc8.size)).mono (HB7n.out).size))
            replace HA10 := Lib.hid (HA10.out.below HA10.out.lt (hc8.trans (hbb8.mono hc8.size)))
            have HA12 := Lib.hid hbx8
            clear hst8 hgs12 hbx8 hc8 hbb8 C2
            have C3 := q_get ma mk P mc nm V8 (HMA.out.below HB8n.out) (Nat.le_trans HLQ.out.l (by decide))
            rw [hrp] at C3
            go_upto_region 9 with fail
            apply wp_region_lit
            refine gw_load (by kernel_rfl) (some 54) rfl 25 (.tmp 7) rfl ⟨g7, 0, none⟩ (.agg (lgA ma P.length mk mc)) (by kernel_rfl) (load_lg (HX7.out.below HX7.out.lt HB8n.out)) ?_
            simp only [pu1, pu2, pu3, pu4]
            refine gw_val (by kernel_rfl) (some 55) rfl (.string nm) (by kernel_rfl) ?_
            simp only [pu1, pu2, pu3, pu4]
            refine gw_call (by kernel_rfl) (some 56) rfl 22 #[.agg (lgA ma P.length mk mc), .string nm] (.tuple #[.agg (acA rp.1), .bool rp.2]) (fun w' => Below V8.heap.size V8 w') (by kernel_rfl) (C3) (fun U9 hc9 => ?_)
            obtain ⟨V9, hst9, hbb9, hbx9⟩ := new_ac U9 rp.1
            simp only [pu1, pu2, pu3, pu4]
            refine gw_val (by kernel_rfl) (some 53) rfl (.tuple #[.agg (acA rp.1), .bool rp.2]) (by kernel_rfl) ?_
            simp only [pu1, pu2, pu3, pu4]
            refine gw_val (by kernel_rfl) (some 57) rfl (.agg (acA rp.1)) (by kernel_rfl) ?_
            simp only [pu1, pu2, pu3, pu4]
            refine gw_val (by kernel_rfl) (some 58) rfl (.bool rp.2) (by kernel_rfl) ?_
            simp only [pu1, pu2, pu3, pu4]
            refine run_to rfl (some 14) rfl (.pointer (some ⟨U9.heap.size, 0, none⟩)) (U9.alloc (.cells (acA zAc) 28)) (by kernel_rfl) ?_
            simp only [pu1, pu2, pu3, pu4]
            refine gw_store (by kernel_rfl) rfl 28 (.tmp 14) (.tmp 57) rfl (.pointer (some ⟨U9.heap.size, 0, none⟩)) (.agg (acA rp.1)) (by kernel_rfl) (by kernel_rfl) (V9) (hst9) ?_
            refine gw_val (by kernel_rfl) (some 15) rfl (.bool rp.2) (by kernel_rfl) ?_
            simp only [pu1, pu2, pu3, pu4]
            apply wpList_nil
            obtain ⟨gg14, hgs14⟩ : ∃ g, U9.heap.size = g := ⟨_, rfl⟩
            rw [hgs14] at hbx9 ⊢
            have HB9n := Lib.hid ((HB8n.out).trans ((hc9.trans (hbb9.mono hc9.size)).mono (HB8n.out).size))
            replace HA10 := Lib.hid (HA10.out.below HA10.out.lt (hc9.trans (hbb9.mono hc9.size)))
            replace HA12 := Lib.hid (HA12.out.below HA12.out.lt (hc9.trans (hbb9.mono hc9.size)))
            have HA14 := Lib.hid hbx9
            clear hst9 hgs14 hbx9 hc9 hbb9 C3
            have C4 := ref_get ma mk P mc nm V9 (HMA.out.below HB9n.out) (Nat.le_trans HLQ.out.l (by decide))
            rw [hrp] at C4
            go_upto_region 10 with fail
            apply wp_region_lit
            refine gw_load (by kernel_rfl) (some 60) rfl 25 (.tmp 7) rfl ⟨g7, 0, none⟩ (.agg (lgA ma P.length mk mc)) (by kernel_rfl) (load_lg (HX7.out.below HX7.out.lt HB9n.out)) ?_
            simp only [pu1, pu2, pu3, pu4]
            refine gw_val (by kernel_rfl) (some 61) rfl (.string nm) (by kernel_rfl) ?_
            simp only [pu1, pu2, pu3, pu4]
            refine gw_call (by kernel_rfl) (some 62) rfl 23 #[.agg (lgA ma P.length mk mc), .string nm] (.tuple #[.agg (acA rp.1), .bool rp.2]) (fun w' => Below V9.heap.size V9 w') (by kernel_rfl) (C4) (fun U10 hc10 => ?_)
            obtain ⟨V10, hst10, hbb10, hbx10⟩ := new_ac U10 rp.1
            simp only [pu1, pu2, pu3, pu4]
            refine gw_val (by kernel_rfl) (some 59) rfl (.tuple #[.agg (acA rp.1), .bool rp.2]) (by kernel_rfl) ?_
            simp only [pu1, pu2, pu3, pu4]
            refine gw_val (by kernel_rfl) (some 63) rfl (.agg (acA rp.1)) (by kernel_rfl) ?_
            simp only [pu1, pu2, pu3, pu4]
            refine gw_val (by kernel_rfl) (some 64) rfl (.bool rp.2) (by kernel_rfl) ?_
            simp only [pu1, pu2, pu3, pu4]
            refine run_to rfl (some 16) rfl (.pointer (some ⟨U10.heap.size, 0, none⟩)) (U10.alloc (.cells (acA zAc) 28)) (by kernel_rfl) ?_
            simp only [pu1, pu2, pu3, pu4]
            refine gw_store (by kernel_rfl) rfl 28 (.tmp 16) (.tmp 63) rfl (.pointer (some ⟨U10.heap.size, 0, none⟩)) (.agg (acA rp.1)) (by kernel_rfl) (by kernel_rfl) (V10) (hst10) ?_
            refine gw_val (by kernel_rfl) (some 17) rfl (.bool rp.2) (by kernel_rfl) ?_
            simp only [pu1, pu2, pu3, pu4]
            apply wpList_nil
            obtain ⟨gg16, hgs16⟩ : ∃ g, U10.heap.size = g := ⟨_, rfl⟩
            rw [hgs16] at hbx10 ⊢
            have HB10n := Lib.hid ((HB9n.out).trans ((hc10.trans (hbb10.mono hc10.size)).mono (HB9n.out).size))
            replace HA10 := Lib.hid (HA10.out.below HA10.out.lt (hc10.trans (hbb10.mono hc10.size)))
            replace HA12 := Lib.hid (HA12.out.below HA12.out.lt (hc10.trans (hbb10.mono hc10.size)))
            replace HA14 := Lib.hid (HA14.out.below HA14.out.lt (hc10.trans (hbb10.mono hc10.size)))
            have HA16 := Lib.hid hbx10
            clear hst10 hgs16 hbx10 hc10 hbb10 C4
            go_upto_region 11 with fail
            apply wp_region_lit
            refine gw_load (by kernel_rfl) (some 65) rfl 28 (.tmp 10) rfl ⟨gg10, 0, none⟩ (.agg (acA r.1)) (by kernel_rfl) (load_acb HA10.out) ?_
            simp only [pu1, pu2, pu3, pu4]
            refine gw_load (by kernel_rfl) (some 66) rfl 28 (.tmp 12) rfl ⟨gg12, 0, none⟩ (.agg (acA r.1)) (by kernel_rfl) (load_acb HA12.out) ?_
            simp only [pu1, pu2, pu3, pu4]
            refine gw_val (by kernel_rfl) (some 67) rfl (.bool false) (neq_ac0 rfl r.1 (by kernel_rfl) (by kernel_rfl) _) ?_
            simp only [pu1, pu2, pu3, pu4]
            refine gw_val (by kernel_rfl) (some 68) rfl (.bool false) (by kernel_rfl) ?_
            simp only [pu1, pu2, pu3, pu4]
            refine gw_val (by kernel_rfl) (some 69) rfl (.bool r.2) (by kernel_rfl) ?_
            simp only [pu1, pu2, pu3, pu4]
            refine gw_val (by kernel_rfl) (some 70) rfl (.bool r.2) (by kernel_rfl) ?_
            simp only [pu1, pu2, pu3, pu4]
            refine gw_val (by kernel_rfl) (some 71) rfl (.bool false) (neq_bb rfl r.2 (by kernel_rfl) (by kernel_rfl) _) ?_
            simp only [pu1, pu2, pu3, pu4]
            refine gw_val (by kernel_rfl) (some 72) rfl (.bool false) (by kernel_rfl) ?_
            simp only [pu1, pu2, pu3, pu4]
            refine gw_val (by kernel_rfl) (some 73) rfl (.bool false) (by kernel_rfl) ?_
            simp only [pu1, pu2, pu3, pu4]
            refine gw_load (by kernel_rfl) (some 74) rfl 28 (.tmp 14) rfl ⟨gg14, 0, none⟩ (.agg (acA rp.1)) (by kernel_rfl) (load_acb HA14.out) ?_
            simp only [pu1, pu2, pu3, pu4]
            refine gw_load (by kernel_rfl) (some 75) rfl 28 (.tmp 16) rfl ⟨gg16, 0, none⟩ (.agg (acA rp.1)) (by kernel_rfl) (load_acb HA16.out) ?_
            simp only [pu1, pu2, pu3, pu4]
            refine gw_val (by kernel_rfl) (some 76) rfl (.bool false) (neq_ac0 rfl rp.1 (by kernel_rfl) (by kernel_rfl) _) ?_
            simp only [pu1, pu2, pu3, pu4]
            refine gw_val (by kernel_rfl) (some 77) rfl (.bool false) (by kernel_rfl) ?_
            simp only [pu1, pu2, pu3, pu4]
            refine gw_val (by kernel_rfl) (some 78) rfl (.bool false) (by kernel_rfl) ?_
            simp only [pu1, pu2, pu3, pu4]
            refine gw_val (by kernel_rfl) (some 79) rfl (.bool rp.2) (by kernel_rfl) ?_
            simp only [pu1, pu2, pu3, pu4]
            refine gw_val (by kernel_rfl) (some 80) rfl (.bool rp.2) (by kernel_rfl) ?_
            simp only [pu1, pu2, pu3, pu4]
            refine gw_val (by kernel_rfl) (some 81) rfl (.bool false) (neq_bb rfl rp.2 (by kernel_rfl) (by kernel_rfl) _) ?_
            simp only [pu1, pu2, pu3, pu4]
            refine gw_val (by kernel_rfl) (some 82) rfl (.bool false) (by kernel_rfl) ?_
            simp only [pu1, pu2, pu3, pu4]
            apply wpList_nil
            clear HA10 HA12 HA14 HA16
            go_upto_region 13 with fail
            apply wp_region_lit
            refine gw_val (by kernel_rfl) (some 83) rfl (.int .i64 (j + 1 : Nat)) (add_nat rfl j 1 (by omega) (by kernel_rfl) (by kernel_rfl) _) ?_
            simp only [pu1, pu2, pu3, pu4]
            refine gw_val (by kernel_rfl) (some 37) rfl (.int .i64 (j + 1 : Nat)) (by kernel_rfl) ?_
            simp only [pu1, pu2, pu3, pu4]
            apply wpList_nil
            go_wp2_with fail
            go_roundg (5 - (j + 1))
            case measure => have := HG.out; omega
            case rel => exact ⟨j + 1, rfl, hlt, HB10n, rfl⟩
          · skip
            go_upto_region 5 with fail
            apply wp_region_lit
            refine gw_val (by kernel_rfl) (some 38) rfl (.bool false) (lss_n rfl (j) (5) (decide_eq_false (by omega)) (by kernel_rfl) (by kernel_rfl) _) ?_
            simp only [pu1, pu2, pu3, pu4]
            apply wpList_nil
            go_upto_region 14 with fail
            apply wp_region_lit
            refine gw_call (by kernel_rfl) (some 84) rfl 10 #[] (.bool true) (fun w' => Below w.heap.size w w') (by kernel_rfl) (HK.out wr (HBW.out)) (fun V9 hV9 => ?_)
            simp only [pu1, pu2, pu3, pu4]
            refine gw_val (by kernel_rfl) (some 6) rfl (.bool true) (by kernel_rfl) ?_
            simp only [pu1, pu2, pu3, pu4]
            apply wpList_nil
            have HE := Lib.hid hV9
            clear hV9
            go_wp2_with fail
            go_ret
            exact ⟨rfl, HE.out⟩
    · skip
      refine gw_val (by kernel_rfl) (some 25) rfl (.bool true) (by kernel_rfl) ?_
      simp only [pu1, pu2, pu3, pu4]
      refine gw_val (by kernel_rfl) (some 26) rfl (.bool true) (by kernel_rfl) ?_
      simp only [pu1, pu2, pu3, pu4]
      with_reducible refine gw_not (by kernel_rfl) (some 27) rfl ?_
      simp only [pu1, pu2, pu3, pu4]
      with_reducible refine gw_not (by kernel_rfl) (some 28) rfl ?_
      simp only [pu1, pu2, pu3, pu4]
      with_reducible refine gw_not (by kernel_rfl) (some 29) rfl ?_
      simp only [pu1, pu2, pu3, pu4]
      refine gw_val (by kernel_rfl) (some 30) rfl (.bool true) (by kernel_rfl) ?_
      simp only [pu1, pu2, pu3, pu4]
      apply wpList_nil
      go_upto_region 2 with fail
      apply wp_region_lit
      refine gw_call (by kernel_rfl) (some 31) rfl 10 #[] (.bool true) (fun w' => Below w.heap.size w w') (by kernel_rfl) (HK.out W2 (HB2.out)) (fun V9 hV9 => ?_)
      simp only [pu1, pu2, pu3, pu4]
      refine gw_val (by kernel_rfl) (some 6) rfl (.bool true) (by kernel_rfl) ?_
      simp only [pu1, pu2, pu3, pu4]
      apply wpList_nil
      have HE := Lib.hid hV9
      clear hV9
      go_wp2_with fail
      go_ret
      exact ⟨rfl, HE.out⟩
end Go.Proofs.Ytebnlklodokhkaa
