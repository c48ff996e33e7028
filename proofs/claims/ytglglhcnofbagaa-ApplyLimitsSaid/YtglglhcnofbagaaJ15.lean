/-
  The program's limited; which ledgers are valid, the program's and the reference's way: contracts.
-/
import Derived.Test.YtglglhcnofbagaaJ14
namespace Go.Proofs.Ytglglhcnofbagaa.Lg
attribute [local irreducible] wpList wpQuiet
set_option maxRecDepth 100000
open Go.RowKit
set_option linter.unusedSimpArgs false
set_option linter.unusedVariables false

theorem stp_10 {A : List Ac} {i : Nat} (h : isName (nums (aca A i).1) = false) : stpE A i = 10 := if_pos h
theorem stp_8 {A : List Ac} {i : Nat} (h : isName (nums (aca A i).1) = true) (h0 : 0 < i) (h1 : (aca A (i - 1)).1 = (aca A i).1) : stpE A i = 8 := by
 unfold stpE
 rw [if_neg (by rw [h]; simp), if_pos ⟨h0, h1⟩]
theorem stp_1 {A : List Ac} {i : Nat} (h : isName (nums (aca A i).1) = true) (h0 : 0 < i) (h1 : ¬ (aca A (i - 1)).1 = (aca A i).1) (h2 : ltS (aca A i).1 (aca A (i - 1)).1 = true) : stpE A i = 1 := by
 unfold stpE
 rw [if_neg (by rw [h]; simp), if_neg (fun q => h1 q.2), if_pos ⟨h0, h2⟩]
theorem stp_z {A : List Ac} {i : Nat} (h : isName (nums (aca A i).1) = true) (h0 : ¬ 0 < i) : stpE A i = 0 := by
 unfold stpE
 rw [if_neg (by rw [h]; simp), if_neg (fun q => h0 q.1), if_neg (fun q => h0 q.1)]
theorem stp_0 {A : List Ac} {i : Nat} (h : isName (nums (aca A i).1) = true) (h1 : ¬ (aca A (i - 1)).1 = (aca A i).1) (h2 : ltS (aca A i).1 (aca A (i - 1)).1 = false) : stpE A i = 0 := by
 unfold stpE
 rw [if_neg (by rw [h]; simp), if_neg (fun q => h1 q.2), if_neg (fun q => by rw [h2] at q; cases q.2)]
theorem val_big {A : List Ac} {c : Int} (h : 256 < A.length) : valE A c = 3 := if_pos h
theorem val_err {A : List Ac} {c : Int} {i : Nat} {e : Int} (h : ¬ 256 < A.length) (hi : i < A.length) (hb : ∀ t, t < i → stpE A t = 0) (he : stpE A i = e) (h0 : e ≠ 0) : valE A c = e := by
 have h1 := frE_err hi hb (by rw [he]; exact h0)
 unfold valE
 rw [if_neg h, h1, he, if_pos h0]
theorem val_end {A : List Ac} {c : Int} (h : ¬ 256 < A.length) (hb : ∀ t, t < A.length → stpE A t = 0) : valE A c = totE A c := by
 unfold valE
 rw [if_neg h, frE_ok hb, if_neg (by simp)]
def limA (tb : Bool) (a : Option Addr) (n k : Nat) (c : Int) : Array Value := cond tb (lgA a n k c) (lgA none 0 0 0)
theorem totE_c (A : List Ac) (c : Int) : totE A c = cond (totB A c) 0 6 := by
 unfold totE
 cases totB A c <;> simp
set_option maxRecDepth 100000 in
set_option maxHeartbeats 8000000 in
theorem q_limited (a : Option Addr) (k : Nat) (A : List Ac) (c : Int) (w : World) (hR : Cs w a (acc A)) (hn : A.length ≤ 4398046511104) (hc : W64 c) (hw : AcW A) :
  Calls Try.prog 49 #[.agg (lgA a A.length k c)] w fun e w' => e = .returned (.tuple #[.agg (limA (totB A c) a A.length k c), .int .i64 (cond (totB A c) 0 6)]) ∧ Below w.heap.size w w' := by
 have hb0 : Below w.heap.size w (w.alloc (.cells (lgA a A.length k c) 27)) := (Below.refl _ w).alloc (Nat.le_refl _) _
 have hX0 : Bx (w.alloc (.cells (lgA a A.length k c) 27)) w.heap.size (lgA a A.length k c) 27 := heap_alloc_last w _
 have hb1 : Below (w.alloc (.cells (lgA a A.length k c) 27)).heap.size (w.alloc (.cells (lgA a A.length k c) 27)) ((w.alloc (.cells (lgA a A.length k c) 27)).alloc (.cells (lgA none 0 0 0) 27)) := (Below.refl _ _).alloc (Nat.le_refl _) _
 have hZ0 : Bx ((w.alloc (.cells (lgA a A.length k c) 27)).alloc (.cells (lgA none 0 0 0) 27)) (w.heap.size + 1) (lgA none 0 0 0) 27 := by
  have := heap_alloc_last (w.alloc (.cells (lgA a A.length k c) 27)) (.cells (lgA none 0 0 0) 27)
  rwa [show (w.alloc (.cells (lgA a A.length k c) 27)).heap.size = w.heap.size + 1 by simp] at this
 have CT := q_total a k A c ((w.alloc (.cells (lgA a A.length k c) 27)).alloc (.cells (lgA none 0 0 0) 27)) (hR.below (hb0.trans (hb1.mono hb0.size))) hn hc hw
 generalize A.length = n at *
 generalize totV A c = tv at *
 generalize htb : totB A c = tb at *
 clear htb hR hn hc hw
 go_enter Try.func49, Try.ntmps49
 go_upto_region 1 with fail
 change Code.wp _ _ _ _ ((w.alloc (.cells (lgA a n k c) 27)).alloc (.cells (lgA none 0 0 0) 27))
 generalize w.alloc (.cells (lgA a n k c) 27) = W0 at *
 have hX1 := hX0.below hX0.lt hb1
 have HB1 := Lib.hid (hb0.trans (hb1.mono hb0.size))
 generalize W0.alloc (.cells (lgA none 0 0 0) 27) = W at *
 obtain ⟨g0, hg0⟩ : ∃ g0, w.heap.size = g0 := ⟨_, rfl⟩
 obtain ⟨g1, hg1⟩ : ∃ g1, w.heap.size + 1 = g1 := ⟨_, rfl⟩
 have HG1 : Hid (w.heap.size ≤ g1) := Lib.hid (by omega)
 rw [hg1] at hZ0
 rw [hg0] at hX1
 simp only [hg0]
 rw [show g0 + 1 = g1 by omega]
 clear hb0 hb1 hX0 hg0 hg1
 refine wl <| gzl rfl ⟨g0, 0, none⟩ (.agg (lgA a n k c)) (load_lg hX1) <| gzc (.tuple #[.int .u64 tv, .bool tb]) (fun w' => Below W.heap.size W w') (CT) (fun V2 hV2 => ?_)
 have HX := Lib.hid (hX1.below hX1.lt hV2)
 have hZ := hZ0.below hZ0.lt hV2
 have HB := Lib.hid (HB1.out.trans (hV2.mono HB1.out.size))
 simp only [pu]
 refine gz5 (.tuple #[.int .u64 tv, .bool tb]) (.int .u64 tv) (.bool tb) (.int .u64 tv) (.bool tb) <| wn ?_
 simp only [pu]
 clear CT hV2 hX1 hZ0 HB1
 cases tb
 ·skip
  go_upto_region 2 with fail
  refine wl <| gz2 (.bool false) (.bool true) <| wn ?_
  simp only [pu]
  have hst := store_lg (a' := none) (n' := 0) (k' := 0) (c' := 0) hZ
  have HB9 := Lib.hid (belowRow HB.out HG1.out (lgA none 0 0 0))
  have HLD := Lib.hid (load_lg hst.2)
  have hst1 := hst.1
  generalize V2.setRow g1 (lgA none 0 0 0) = V9 at *
  clear hst hZ
  go_upto_region 3 with fail
  refine wl <| gz1 (.agg #[.slice none 0 0, .int .u64 0]) <| gzs rfl (hst1) <| gz1 (.int .i64 6) <| wn ?_
  simp only [pu]
  clear hst1
  go_wp2_with fail
  exact bodyPost_ret (results_c (p := 2) (q := 3) rfl (by kernel_rfl) HLD.out rfl) rfl ⟨rfl, HB9.out⟩
 ·skip
  go_upto_region 2 with fail
  refine wl <| gz2 (.bool true) (.bool false) <| wn ?_
  simp only [pu]
  have hst := store_lg (a' := a) (n' := n) (k' := k) (c' := c) hZ
  have HB9 := Lib.hid (belowRow HB.out HG1.out (lgA a n k c))
  have HLD := Lib.hid (load_lg hst.2)
  have hst1 := hst.1
  generalize V2.setRow g1 (lgA a n k c) = V9 at *
  clear hst hZ
  go_upto_region 4 with fail
  refine wl <| gzl rfl ⟨g0, 0, none⟩ (.agg (lgA a n k c)) (load_lg HX.out) <| gzs rfl (hst1) <| gz1 (.int .i64 0) <| wn ?_
  simp only [pu]
  clear hst1
  go_wp2_with fail
  exact bodyPost_ret (results_c (p := 2) (q := 3) rfl (by kernel_rfl) HLD.out rfl) rfl ⟨rfl, HB9.out⟩
theorem sub_p {ρ : Operand → Value} {o : Oper} {x y : Operand} (ho : o.op = .binOp .sub 3 x y 3) (m : Nat) (h0 : 0 < m) (hm : m ≤ 9223372036854775807) (hx : ρ x = .int .i64 m) (hy : ρ y = .int .i64 1) (w : World) : (execOp ρ o).run Try.prog w = .ok (.value (.int .i64 (m - 1 : Nat))) w := by
 have e : (m : Int) - 1 = ((m - 1 : Nat) : Int) := by omega
 have hw : IntKind.i64.wrap ((m - 1 : Nat) : Int) = ((m - 1 : Nat) : Int) := by rw [IntKind.wrap_i64]; omega
 unfold execOp
 simp only [ho, hx, hy]
 go_simp
/-- A name at its place in a row. -/
def NmAt (w : World) (b o : Nat) (s : ByteArray) : Prop := w.cell? ⟨b, o, none⟩ = some (.string s)
theorem nm_at {w : World} {b o : Nat} {x : Ac} (h : w.rangeAt b o (acl x)) : NmAt w b o x.1 := by have := h 0 (.string x.1) rfl; rwa [Nat.add_zero] at this
theorem NmAt.load {w : World} {b o : Nat} {s : ByteArray} (h : NmAt w b o s) : (Instr.loadAt 9 (.pointer (some ⟨b, o, none⟩))).run Try.prog w = .ok (.string s) w := load_cell h (by kernel_rfl)
theorem NmAt.drew {w : World} {b o : Nat} {s : ByteArray} (h : NmAt w b o s) : NmAt w.drew b o s := h
set_option maxRecDepth 100000 in
set_option maxHeartbeats 8000000 in
theorem q_validate (a : Option Addr) (k : Nat) (A : List Ac) (c : Int) (w : World) (hR : Cs w a (acc A)) (hn : A.length ≤ 4398046511104) (hc : W64 c) (hw : AcW A) (hz : ∀ x, x ∈ A → x.1.size ≤ 140737488355328) :
  Calls Try.prog 27 #[.agg (lgA a A.length k c)] w fun e w' => e = .returned (.int .i64 (valE A c)) ∧ Below w.heap.size w w' := by
 have hb0 : Below w.heap.size w (w.alloc (.cells (lgA a A.length k c) 27)) := (Below.refl _ w).alloc (Nat.le_refl _) _
 have hX0 : Bx (w.alloc (.cells (lgA a A.length k c) 27)) w.heap.size (lgA a A.length k c) 27 := heap_alloc_last w _
 have HA := Lib.hid (hR.below hb0)
 have HZ := Lib.hid hz
 have CL := Lib.hid (fun (V : World) (a2 : Option Addr) (h : Cs V a2 (acc A)) => q_limited a2 k A c V h hn hc hw)
 obtain ⟨ve, hve⟩ : ∃ v, valE A c = v := ⟨_, rfl⟩
 have HE2 : Hid (256 < A.length → ve = 3) := Lib.hid fun h => by rw [← hve]; exact val_big h
 have HE0 : Hid (∀ i e, ¬ 256 < A.length → i < A.length → (∀ t, t < i → stpE A t = 0) → stpE A i = e → e ≠ 0 → ve = e) := Lib.hid fun i e h1 h2 h3 h4 h5 => by rw [← hve]; exact val_err h1 h2 h3 h4 h5
 have HE1 : Hid (¬ 256 < A.length → (∀ t, t < A.length → stpE A t = 0) → ve = cond (totB A c) 0 6) := Lib.hid fun h1 h2 => by rw [← hve, val_end h1 h2, totE_c]
 obtain ⟨n, hnn⟩ : ∃ n, A.length = n := ⟨_, rfl⟩
 have HN := Lib.hid hnn
 have HNL : Hid (n ≤ 4398046511104) := Lib.hid (by omega)
 rw [hnn] at hb0 hX0 HA CL HE2 HE0 HE1
 rw [hve, hnn]
 generalize totB A c = tb at *
 clear hR hn hnn hw hc hz hve
 go_enter Try.func27, Try.ntmps27
 go_upto_region 1 with fail
 change Code.wp _ _ _ _ (w.alloc (.cells (lgA a n k c) 27))
 generalize w.alloc (.cells (lgA a n k c) 27) = W at *
 obtain ⟨g0, hg0⟩ : ∃ g0, w.heap.size = g0 := ⟨_, rfl⟩
 have HB0 := Lib.hid hb0
 rw [hg0] at hX0
 simp only [hg0]
 have HX := Lib.hid hX0
 clear hb0 hg0 hX0
 by_cases hbig : 256 < n
 ·skip
  refine wl <| gz1 (.pointer (some ⟨g0, 0, none⟩)) <| gzl rfl ⟨g0, 0, none⟩ (.slice a n k) (HX.out.load (i := 0) rfl (by kernel_rfl)) <| gz1 (.int .i64 n) <| gzb (gtr_n rfl (n) (256) dT) <| wn ?_
  simp only [pu]
  obtain rfl := HE2.out hbig
  go_upto_region 2 with fail
  refine wl <| gz1 (.int .i64 3) <| wn ?_
  simp only [pu]
  go_wp2_with fail
  go_ret
  exact ⟨rfl, HB0.out⟩
 have HBG := Lib.hid hbig
 clear HE2
 refine wl <| gz1 (.pointer (some ⟨g0, 0, none⟩)) <| gzl rfl ⟨g0, 0, none⟩ (.slice a n k) (HX.out.load (i := 0) rfl (by kernel_rfl)) <| gz1 (.int .i64 n) <| gzb (gtr_n rfl (n) (256) dF) <| wn ?_
 simp only [pu]
 go_upto_region 3 with fail
 refine wl <| gz1 (.pointer (some ⟨g0, 0, none⟩)) <| gzl rfl ⟨g0, 0, none⟩ (.slice a n k) (HX.out.load (i := 0) rfl (by kernel_rfl)) <| gz2 (.int .i64 n) (.int .i64 0) <| wn ?_
 simp only [pu]
 clear hbig
 go_wp2_with fail
 go_loopg [14] n (fun gg s14 wx => ∃ j : Nat, s14 = .int .i64 j ∧ j ≤ n ∧ Hid (∀ t, t < j → stpE A t = 0) ∧ Hid (Below W.heap.size W wx) ∧ n - j = gg)
 case atStart => exact ⟨0, rfl, by omega, Lib.hid (fun t h => by omega), Lib.hid (Below.refl _ _), by omega⟩
 case round =>
  obtain ⟨j, rfl, hj, HO, HB, hg⟩ := hrel
  have hn9 := HNL.out
  by_cases hlt : j < n
  ·skip
   obtain ⟨b, off, rfl, -, hrx⟩ := ac_range (HA.out.below HB.out) (k := j) (by rw [HN.out]; exact hlt)
   have HLD := Lib.hid (load_ac hrx)
   have HER := Lib.hid (fun e => HE0.out j e HBG.out hlt HO.out)
   have H10 := Lib.hid (@stp_10 A j)
   have H8 := Lib.hid (@stp_8 A j)
   have H1 := Lib.hid (@stp_1 A j)
   have HZ0 := Lib.hid (@stp_z A j)
   have HP0 := Lib.hid (@stp_0 A j)
   have HYZ := Lib.hid (HZ.out (aca A j) (aca_mem (by rw [HN.out]; exact hlt)))
   generalize hy : aca A j = y at *
   have HY := Lib.hid hy
   have HG := Lib.hid hg
   obtain ⟨V2, hst, hb2, hbx⟩ := new_ac wr y
   have HB2 := Lib.hid (HB.out.trans (hb2.mono HB.out.size))
   have CN := q_isname y.1 V2
   generalize hnm : isName (nums y.1) = nm at *
   clear hrx hg hb2 hnm hy
   go_upto_region 4 with fail
   refine wl <| gzb (lss_n rfl (j) (n) dT) <| wn ?_
   simp only [pu]
   go_upto_region 5 with fail
   refine wl <| gz1 (.int .i64 j) <| gzv (.pointer (some ⟨b, off + j * 3, none⟩)) (idx_ac b off n k j hlt _ _ _ rfl (by kernel_rfl) (by kernel_rfl)) <| gzl rfl ⟨b, off + j * 3, none⟩ (.agg (acA y)) (HLD.out) ?_
   simp only [pu]
   refine run_to rfl (some 4) rfl (.pointer (some ⟨wr.heap.size, 0, none⟩)) (wr.alloc (.cells (acA zAc) 24)) (by kernel_rfl) ?_
   simp only [pu]
   refine gz1 (.int .i64 j) <| gzs rfl (hst) <| wn ?_
   simp only [pu]
   obtain ⟨g4, hg4⟩ : ∃ g4, wr.heap.size = g4 := ⟨_, rfl⟩
   rw [hg4] at hbx ⊢
   clear hst hg4
   go_upto_region 6 with fail
   cases nm
   ·skip
    refine wl <| gz1 (.pointer (some ⟨g4, 0, none⟩)) <| gzl rfl ⟨g4, 0, none⟩ (.string y.1) (hbx.load (i := 0) rfl (by kernel_rfl)) <| gzc (.bool false) (fun w' => Below V2.heap.size V2 w') (CN) (fun V3 hV3 => ?_)
    simp only [pu]
    refine gz2 (.bool true) (.bool true) <| wn ?_
    simp only [pu]
    have HB3 := Lib.hid (HB2.out.trans (hV3.mono HB2.out.size))
    have HX4 := Lib.hid (hbx.below hbx.lt hV3)
    clear hV3 hbx CN HB2
    obtain rfl := HER.out 10 (H10.out rfl) (by decide)
    have HB9 := Lib.hid (HB0.out.trans (HB3.out.mono HB0.out.size))
    clear HER H10 H8 H1 HZ0 HP0 HB3 HLD HB
    go_upto_region 7 with fail
    refine wl <| gz1 (.int .i64 10) <| wn ?_
    simp only [pu]
    go_wp2_with fail
    go_ret
    exact ⟨rfl, HB9.out⟩
   ·skip
    refine wl <| gz1 (.pointer (some ⟨g4, 0, none⟩)) <| gzl rfl ⟨g4, 0, none⟩ (.string y.1) (hbx.load (i := 0) rfl (by kernel_rfl)) <| gzc (.bool true) (fun w' => Below V2.heap.size V2 w') (CN) (fun V3 hV3 => ?_)
    simp only [pu]
    refine gz2 (.bool false) (.bool false) <| wn ?_
    simp only [pu]
    have HB3 := Lib.hid (HB2.out.trans (hV3.mono HB2.out.size))
    have HX4 := Lib.hid (hbx.below hbx.lt hV3)
    clear hV3 hbx CN HB2
    clear H10
    clear HLD
    by_cases hpos : 0 < j
    ·skip
     obtain ⟨b2, off2, ea, -, hrx⟩ := ac_range (HA.out.below HB3.out.drew) (k := j - 1) (by rw [HN.out]; omega)
     simp only [Option.some.injEq, Addr.mk.injEq, and_true] at ea
     obtain ⟨rfl, rfl⟩ := ea
     have HLX := Lib.hid (nm_at hrx)
     have HX4d := Lib.hid (HX4.out.below HX4.out.lt ((Below.refl _ V3).drew))
     generalize hx : aca A (j - 1) = x at *
     clear hrx
     by_cases he : x.1 = y.1
     ·skip
      go_upto_region 8 with fail
      refine wp_region_class (C := fun U => U = V3.drew) (by kernel_rfl) (by kernel_rfl) (rfl) ?_
      refine gy (.int .i64 j) <| gyv (.bool true) (fun U hU => gtr_n rfl (j) (0) dT (by kernel_rfl) (by kernel_rfl) _) <| gy (.bool true) <| gy (.pointer (some ⟨g0, 0, none⟩)) <|
        gyl rfl ⟨g0, 0, none⟩ (.slice (some ⟨b, off, none⟩) n k) (fun U hU => by rw [hU]; exact (HX.out.below HX.out.lt HB3.out.drew).load (i := 0) rfl (by kernel_rfl)) <| gy (.int .i64 j) <| gyv (.int .i64 (j - 1 : Nat)) (fun U hU => sub_p rfl j hpos (by omega) (by kernel_rfl) (by kernel_rfl) _) <|
        gyv (.pointer (some ⟨b, off + (j - 1) * 3, none⟩)) (fun U hU => idx_ac b off n k (j - 1) (by omega) _ _ _ rfl (by kernel_rfl) (by kernel_rfl)) <| gy (.pointer (some ⟨b, off + (j - 1) * 3, none⟩)) <|
        gyl rfl ⟨b, off + (j - 1) * 3, none⟩ (.string x.1) (fun U hU => by rw [hU]; exact HLX.out.load) <| gy (.pointer (some ⟨g4, 0, none⟩)) <| gyl rfl ⟨g4, 0, none⟩ (.string y.1) (fun U hU => by rw [hU]; exact HX4d.out.load (i := 0) rfl (by kernel_rfl)) <|
        gyv (.bool true) (fun U hU => eql_s rfl x.1 y.1 (by rw [beqB]; exact decide_eq_true he) (by kernel_rfl) (by kernel_rfl) _) <| gy (.bool true) <| gy (.bool true) ?_
      simp only [pu]
      apply wpQuiet_nil
      intro U hU
      subst hU
      obtain rfl := HER.out 8 (H8.out rfl hpos he) (by decide)
      have HB9 := Lib.hid (HB0.out.trans (HB3.out.drew.mono HB0.out.size))
      clear HER H8 H1 HZ0 HP0 HB3 HB
      go_upto_region 9 with fail
      refine wl <| gz1 (.int .i64 8) <| wn ?_
      simp only [pu]
      go_wp2_with fail
      go_ret
      exact ⟨rfl, HB9.out⟩
     generalize hl9 : ltS y.1 x.1 = lt9 at *
     cases lt9
     ·skip
      go_upto_region 8 with fail
      refine wp_region_class (C := fun U => U = V3.drew) (by kernel_rfl) (by kernel_rfl) (rfl) ?_
      refine gy (.int .i64 j) <| gyv (.bool true) (fun U hU => gtr_n rfl (j) (0) dT (by kernel_rfl) (by kernel_rfl) _) <| gy (.bool true) <| gy (.pointer (some ⟨g0, 0, none⟩)) <|
        gyl rfl ⟨g0, 0, none⟩ (.slice (some ⟨b, off, none⟩) n k) (fun U hU => by rw [hU]; exact (HX.out.below HX.out.lt HB3.out.drew).load (i := 0) rfl (by kernel_rfl)) <| gy (.int .i64 j) <| gyv (.int .i64 (j - 1 : Nat)) (fun U hU => sub_p rfl j hpos (by omega) (by kernel_rfl) (by kernel_rfl) _) <|
        gyv (.pointer (some ⟨b, off + (j - 1) * 3, none⟩)) (fun U hU => idx_ac b off n k (j - 1) (by omega) _ _ _ rfl (by kernel_rfl) (by kernel_rfl)) <| gy (.pointer (some ⟨b, off + (j - 1) * 3, none⟩)) <|
        gyl rfl ⟨b, off + (j - 1) * 3, none⟩ (.string x.1) (fun U hU => by rw [hU]; exact HLX.out.load) <| gy (.pointer (some ⟨g4, 0, none⟩)) <| gyl rfl ⟨g4, 0, none⟩ (.string y.1) (fun U hU => by rw [hU]; exact HX4d.out.load (i := 0) rfl (by kernel_rfl)) <|
        gyv (.bool false) (fun U hU => eql_s rfl x.1 y.1 (by rw [beqB]; exact decide_eq_false he) (by kernel_rfl) (by kernel_rfl) _) <| gy (.bool false) <| gy (.bool false) ?_
      simp only [pu]
      apply wpQuiet_nil
      intro U hU
      subst hU
      have HX4d2 := Lib.hid (HX4d.out.below HX4d.out.lt ((Below.refl _ V3.drew).drew))
      have HLX2 := Lib.hid HLX.out.drew
      have HB3d := Lib.hid HB3.out.drew
      clear HX4d HLX HB3 HX4
      generalize V3.drew = V5 at *
      have HB3 := HB3d
      have HLX := HLX2
      have HX4d := HX4d2
      clear HB3d HLX2 HX4d2
      go_upto_region 10 with fail
      refine wp_region_class (C := fun U => U = V5.drew) (by kernel_rfl) (by kernel_rfl) (rfl) ?_
      refine gy (.int .i64 j) <| gyv (.bool true) (fun U hU => gtr_n rfl (j) (0) dT (by kernel_rfl) (by kernel_rfl) _) <| gy (.bool true) <| gy (.pointer (some ⟨g0, 0, none⟩)) <|
        gyl rfl ⟨g0, 0, none⟩ (.slice (some ⟨b, off, none⟩) n k) (fun U hU => by rw [hU]; exact (HX.out.below HX.out.lt HB3.out.drew).load (i := 0) rfl (by kernel_rfl)) <| gy (.int .i64 j) <| gyv (.int .i64 (j - 1 : Nat)) (fun U hU => sub_p rfl j hpos (by omega) (by kernel_rfl) (by kernel_rfl) _) <|
        gyv (.pointer (some ⟨b, off + (j - 1) * 3, none⟩)) (fun U hU => idx_ac b off n k (j - 1) (by omega) _ _ _ rfl (by kernel_rfl) (by kernel_rfl)) <| gy (.pointer (some ⟨b, off + (j - 1) * 3, none⟩)) <|
        gyl rfl ⟨b, off + (j - 1) * 3, none⟩ (.string x.1) (fun U hU => by rw [hU]; exact HLX.out.load) <| gy (.pointer (some ⟨g4, 0, none⟩)) <| gyl rfl ⟨g4, 0, none⟩ (.string y.1) (fun U hU => by rw [hU]; exact HX4d.out.load (i := 0) rfl (by kernel_rfl)) <|
        gyv (.bool false) (fun U hU => gtr_s rfl x.1 y.1 hl9 (by kernel_rfl) (by kernel_rfl) _) <| gy (.bool false) <| gy (.bool false) ?_
      simp only [pu]
      apply wpQuiet_nil
      intro U hU
      subst hU
      replace HB3 := Lib.hid HB3.out.drew
      clear HLX HX4d
      have HO9 : Hid (∀ t, t < j + 1 → stpE A t = 0) := Lib.hid fun t ht => (by rcases Nat.lt_or_ge t j with h7 | h7; exact HO.out t h7; have e7 : t = j := (by omega); rw [e7]; exact HP0.out rfl he rfl)
      clear HER H8 H1 HZ0 HP0 HB HO
      go_upto_region 12 with fail
      refine wl <| gzw (.int .i64 (j + 1 : Nat)) (add_nat rfl j 1 (by omega)) <| gz1 (.int .i64 (j + 1 : Nat)) <| wn ?_
      simp only [pu]
      go_wp2_with fail
      go_roundg (n - (j + 1))
      case measure => have := HG.out; omega
      case rel => exact ⟨j + 1, rfl, hlt, HO9, HB3, rfl⟩
     ·skip
      go_upto_region 8 with fail
      refine wp_region_class (C := fun U => U = V3.drew) (by kernel_rfl) (by kernel_rfl) (rfl) ?_
      refine gy (.int .i64 j) <| gyv (.bool true) (fun U hU => gtr_n rfl (j) (0) dT (by kernel_rfl) (by kernel_rfl) _) <| gy (.bool true) <| gy (.pointer (some ⟨g0, 0, none⟩)) <|
        gyl rfl ⟨g0, 0, none⟩ (.slice (some ⟨b, off, none⟩) n k) (fun U hU => by rw [hU]; exact (HX.out.below HX.out.lt HB3.out.drew).load (i := 0) rfl (by kernel_rfl)) <| gy (.int .i64 j) <| gyv (.int .i64 (j - 1 : Nat)) (fun U hU => sub_p rfl j hpos (by omega) (by kernel_rfl) (by kernel_rfl) _) <|
        gyv (.pointer (some ⟨b, off + (j - 1) * 3, none⟩)) (fun U hU => idx_ac b off n k (j - 1) (by omega) _ _ _ rfl (by kernel_rfl) (by kernel_rfl)) <| gy (.pointer (some ⟨b, off + (j - 1) * 3, none⟩)) <|
        gyl rfl ⟨b, off + (j - 1) * 3, none⟩ (.string x.1) (fun U hU => by rw [hU]; exact HLX.out.load) <| gy (.pointer (some ⟨g4, 0, none⟩)) <| gyl rfl ⟨g4, 0, none⟩ (.string y.1) (fun U hU => by rw [hU]; exact HX4d.out.load (i := 0) rfl (by kernel_rfl)) <|
        gyv (.bool false) (fun U hU => eql_s rfl x.1 y.1 (by rw [beqB]; exact decide_eq_false he) (by kernel_rfl) (by kernel_rfl) _) <| gy (.bool false) <| gy (.bool false) ?_
      simp only [pu]
      apply wpQuiet_nil
      intro U hU
      subst hU
      have HX4d2 := Lib.hid (HX4d.out.below HX4d.out.lt ((Below.refl _ V3.drew).drew))
      have HLX2 := Lib.hid HLX.out.drew
      have HB3d := Lib.hid HB3.out.drew
      clear HX4d HLX HB3 HX4
      generalize V3.drew = V5 at *
      have HB3 := HB3d
      have HLX := HLX2
      have HX4d := HX4d2
      clear HB3d HLX2 HX4d2
      go_upto_region 10 with fail
      refine wp_region_class (C := fun U => U = V5.drew) (by kernel_rfl) (by kernel_rfl) (rfl) ?_
      refine gy (.int .i64 j) <| gyv (.bool true) (fun U hU => gtr_n rfl (j) (0) dT (by kernel_rfl) (by kernel_rfl) _) <| gy (.bool true) <| gy (.pointer (some ⟨g0, 0, none⟩)) <|
        gyl rfl ⟨g0, 0, none⟩ (.slice (some ⟨b, off, none⟩) n k) (fun U hU => by rw [hU]; exact (HX.out.below HX.out.lt HB3.out.drew).load (i := 0) rfl (by kernel_rfl)) <| gy (.int .i64 j) <| gyv (.int .i64 (j - 1 : Nat)) (fun U hU => sub_p rfl j hpos (by omega) (by kernel_rfl) (by kernel_rfl) _) <|
        gyv (.pointer (some ⟨b, off + (j - 1) * 3, none⟩)) (fun U hU => idx_ac b off n k (j - 1) (by omega) _ _ _ rfl (by kernel_rfl) (by kernel_rfl)) <| gy (.pointer (some ⟨b, off + (j - 1) * 3, none⟩)) <|
        gyl rfl ⟨b, off + (j - 1) * 3, none⟩ (.string x.1) (fun U hU => by rw [hU]; exact HLX.out.load) <| gy (.pointer (some ⟨g4, 0, none⟩)) <| gyl rfl ⟨g4, 0, none⟩ (.string y.1) (fun U hU => by rw [hU]; exact HX4d.out.load (i := 0) rfl (by kernel_rfl)) <|
        gyv (.bool true) (fun U hU => gtr_s rfl x.1 y.1 hl9 (by kernel_rfl) (by kernel_rfl) _) <| gy (.bool true) <| gy (.bool true) ?_
      simp only [pu]
      apply wpQuiet_nil
      intro U hU
      subst hU
      replace HB3 := Lib.hid HB3.out.drew
      clear HLX HX4d
      obtain rfl := HER.out 1 (H1.out rfl hpos he rfl) (by decide)
      have HB9 := Lib.hid (HB0.out.trans (HB3.out.mono HB0.out.size))
      clear HER H8 H1 HZ0 HP0 HB3 HB
      go_upto_region 11 with fail
      refine wl <| gz1 (.int .i64 1) <| wn ?_
      simp only [pu]
      go_wp2_with fail
      go_ret
      exact ⟨rfl, HB9.out⟩
    ·skip
     have HX4d := Lib.hid HX4.out
     go_upto_region 8 with fail
     refine wp_region_class (C := fun U => U = V3.drew) (by kernel_rfl) (by kernel_rfl) (rfl) ?_
     refine gy (.int .i64 j) <| gyv (.bool false) (fun U hU => gtr_n rfl (j) (0) dF (by kernel_rfl) (by kernel_rfl) _) <| gy (.bool false) <| gyn <| gyn <| gyn <| gyn <| gyn <| gyn <| gyn <| gyn <| gyn <| gyn <| gy (.bool false) <| gy (.bool false) ?_
     simp only [pu]
     apply wpQuiet_nil
     intro U hU
     subst hU
     have HB3d := Lib.hid HB3.out.drew
     clear HB3 HX4d HX4
     generalize V3.drew = V5 at *
     have HB3 := HB3d
     clear HB3d
     go_upto_region 10 with fail
     refine wp_region_class (C := fun U => U = V5.drew) (by kernel_rfl) (by kernel_rfl) (rfl) ?_
     refine gy (.int .i64 j) <| gyv (.bool false) (fun U hU => gtr_n rfl (j) (0) dF (by kernel_rfl) (by kernel_rfl) _) <| gy (.bool false) <| gyn <| gyn <| gyn <| gyn <| gyn <| gyn <| gyn <| gyn <| gyn <| gyn <| gy (.bool false) <| gy (.bool false) ?_
     simp only [pu]
     apply wpQuiet_nil
     intro U hU
     subst hU
     replace HB3 := Lib.hid HB3.out.drew
     have HO9 : Hid (∀ t, t < j + 1 → stpE A t = 0) := Lib.hid fun t ht => (by rcases Nat.lt_or_ge t j with h7 | h7; exact HO.out t h7; have e7 : t = j := (by omega); rw [e7]; exact HZ0.out rfl hpos)
     clear HER H8 H1 HZ0 HP0 HB HO
     go_upto_region 12 with fail
     refine wl <| gzw (.int .i64 (j + 1 : Nat)) (add_nat rfl j 1 (by omega)) <| gz1 (.int .i64 (j + 1 : Nat)) <| wn ?_
     simp only [pu]
     go_wp2_with fail
     go_roundg (n - (j + 1))
     case measure => have := HG.out; omega
     case rel => exact ⟨j + 1, rfl, hlt, HO9, HB3, rfl⟩
  ·skip
   obtain rfl : n = j := by omega
   obtain rfl := HE1.out HBG.out HO.out
   have CT := CL.out wr a (HA.out.below HB.out)
   have HX4 := Lib.hid (HX.out.below HX.out.lt HB.out)
   clear hg HE1 HE0 CL HO
   go_upto_region 4 with fail
   refine wl <| gzb (lss_n rfl (n) (n) dF) <| wn ?_
   simp only [pu]
   go_upto_region 13 with fail
   cases tb
   ·skip
    refine wl <| gzl rfl ⟨g0, 0, none⟩ (.agg (lgA a n k c)) (load_lg HX4.out) <| gzc (.tuple #[.agg (lgA none 0 0 0), .int .i64 6]) (fun w' => Below wr.heap.size wr w') (CT) (fun V2 hV2 => ?_)
    obtain ⟨V3, hst, hb3, -⟩ := new_lg V2 none 0 0 0
    have HB9 := Lib.hid (HB0.out.trans ((HB.out.trans ((hV2.trans (hb3.mono hV2.size)).mono HB.out.size)).mono HB0.out.size))
    simp only [pu]
    refine gz3 (.tuple #[.agg (lgA none 0 0 0), .int .i64 6]) (.agg (lgA none 0 0 0)) (.int .i64 6) ?_
    simp only [pu]
    refine run_to rfl (some 5) rfl (.pointer (some ⟨V2.heap.size, 0, none⟩)) (V2.alloc (.cells (lgA none 0 0 0) 27)) (by kernel_rfl) ?_
    simp only [pu]
    refine gzs rfl (hst) <| gz1 (.int .i64 6) <| wn ?_
    simp only [pu]
    clear CT hV2 hst hb3 HB
    go_upto_region 14 with fail
    refine wl <| gz2 (.int .i64 6) (.int .i64 6) <| wn ?_
    simp only [pu]
    go_wp2_with fail
    go_ret
    exact ⟨rfl, HB9.out⟩
   ·skip
    refine wl <| gzl rfl ⟨g0, 0, none⟩ (.agg (lgA a n k c)) (load_lg HX4.out) <| gzc (.tuple #[.agg (lgA a n k c), .int .i64 0]) (fun w' => Below wr.heap.size wr w') (CT) (fun V2 hV2 => ?_)
    obtain ⟨V3, hst, hb3, -⟩ := new_lg V2 a n k c
    have HB9 := Lib.hid (HB0.out.trans ((HB.out.trans ((hV2.trans (hb3.mono hV2.size)).mono HB.out.size)).mono HB0.out.size))
    simp only [pu]
    refine gz3 (.tuple #[.agg (lgA a n k c), .int .i64 0]) (.agg (lgA a n k c)) (.int .i64 0) ?_
    simp only [pu]
    refine run_to rfl (some 5) rfl (.pointer (some ⟨V2.heap.size, 0, none⟩)) (V2.alloc (.cells (lgA none 0 0 0) 27)) (by kernel_rfl) ?_
    simp only [pu]
    refine gzs rfl (hst) <| gz1 (.int .i64 0) <| wn ?_
    simp only [pu]
    clear CT hV2 hst hb3 HB
    go_upto_region 14 with fail
    refine wl <| gz2 (.int .i64 0) (.int .i64 0) <| wn ?_
    simp only [pu]
    go_wp2_with fail
    go_ret
    exact ⟨rfl, HB9.out⟩
set_option maxRecDepth 100000 in
set_option maxHeartbeats 8000000 in
theorem ref_validate (a : Option Addr) (k : Nat) (A : List Ac) (c : Int) (w : World) (hR : Cs w a (acc A)) (hn : A.length ≤ 4398046511104) (hc : W64 c) (hw : AcW A) (hz : ∀ x, x ∈ A → x.1.size ≤ 140737488355328) :
  Calls Try.prog 16 #[.agg (lgA a A.length k c)] w fun e w' => e = .returned (.int .i64 (valE A c)) ∧ Below w.heap.size w w' := by
 have hb0 : Below w.heap.size w (w.alloc (.cells (lgA a A.length k c) 27)) := (Below.refl _ w).alloc (Nat.le_refl _) _
 have hX0 : Bx (w.alloc (.cells (lgA a A.length k c) 27)) w.heap.size (lgA a A.length k c) 27 := heap_alloc_last w _
 have HA := Lib.hid (hR.below hb0)
 have HZ := Lib.hid hz
 have CL := Lib.hid (fun (V : World) (a2 : Option Addr) (h : Cs V a2 (acc A)) => ref_total a2 k A c V h hn hc hw)
 obtain ⟨ve, hve⟩ : ∃ v, valE A c = v := ⟨_, rfl⟩
 have HE2 : Hid (256 < A.length → ve = 3) := Lib.hid fun h => by rw [← hve]; exact val_big h
 have HE0 : Hid (∀ i e, ¬ 256 < A.length → i < A.length → (∀ t, t < i → stpE A t = 0) → stpE A i = e → e ≠ 0 → ve = e) := Lib.hid fun i e h1 h2 h3 h4 h5 => by rw [← hve]; exact val_err h1 h2 h3 h4 h5
 have HE1 : Hid (¬ 256 < A.length → (∀ t, t < A.length → stpE A t = 0) → ve = cond (totB A c) 0 6) := Lib.hid fun h1 h2 => by rw [← hve, val_end h1 h2, totE_c]
 obtain ⟨n, hnn⟩ : ∃ n, A.length = n := ⟨_, rfl⟩
 have HN := Lib.hid hnn
 have HNL : Hid (n ≤ 4398046511104) := Lib.hid (by omega)
 rw [hnn] at hb0 hX0 HA CL HE2 HE0 HE1
 rw [hve, hnn]
 generalize totB A c = tb at *
 generalize totV A c = tv at *
 clear hR hn hnn hw hc hz hve
 go_enter Try.func16, Try.ntmps16
 go_upto_region 1 with fail
 change Code.wp _ _ _ _ (w.alloc (.cells (lgA a n k c) 27))
 generalize w.alloc (.cells (lgA a n k c) 27) = W at *
 obtain ⟨g0, hg0⟩ : ∃ g0, w.heap.size = g0 := ⟨_, rfl⟩
 have HB0 := Lib.hid hb0
 rw [hg0] at hX0
 simp only [hg0]
 have HX := Lib.hid hX0
 clear hb0 hg0 hX0
 by_cases hbig : 256 < n
 ·skip
  refine wl <| gz1 (.pointer (some ⟨g0, 0, none⟩)) <| gzl rfl ⟨g0, 0, none⟩ (.slice a n k) (HX.out.load (i := 0) rfl (by kernel_rfl)) <| gz1 (.int .i64 n) <| gzb (gtr_n rfl (n) (256) dT) <| wn ?_
  simp only [pu]
  obtain rfl := HE2.out hbig
  go_upto_region 2 with fail
  refine wl <| gz1 (.int .i64 3) <| wn ?_
  simp only [pu]
  go_wp2_with fail
  go_ret
  exact ⟨rfl, HB0.out⟩
 have HBG := Lib.hid hbig
 clear HE2
 refine wl <| gz1 (.pointer (some ⟨g0, 0, none⟩)) <| gzl rfl ⟨g0, 0, none⟩ (.slice a n k) (HX.out.load (i := 0) rfl (by kernel_rfl)) <| gz1 (.int .i64 n) <| gzb (gtr_n rfl (n) (256) dF) <| wn ?_
 simp only [pu]
 go_upto_region 3 with fail
 refine wl <| gz1 (.pointer (some ⟨g0, 0, none⟩)) <| gzl rfl ⟨g0, 0, none⟩ (.slice a n k) (HX.out.load (i := 0) rfl (by kernel_rfl)) <| gz2 (.int .i64 n) (.int .i64 0) <| wn ?_
 simp only [pu]
 clear hbig
 go_wp2_with fail
 go_loopg [14] n (fun gg s14 wx => ∃ j : Nat, s14 = .int .i64 j ∧ j ≤ n ∧ Hid (∀ t, t < j → stpE A t = 0) ∧ Hid (Below W.heap.size W wx) ∧ n - j = gg)
 case atStart => exact ⟨0, rfl, by omega, Lib.hid (fun t h => by omega), Lib.hid (Below.refl _ _), by omega⟩
 case round =>
  obtain ⟨j, rfl, hj, HO, HB, hg⟩ := hrel
  have hn9 := HNL.out
  by_cases hlt : j < n
  ·skip
   obtain ⟨b, off, rfl, -, hrx⟩ := ac_range (HA.out.below HB.out) (k := j) (by rw [HN.out]; exact hlt)
   have HLD := Lib.hid (load_ac hrx)
   have HER := Lib.hid (fun e => HE0.out j e HBG.out hlt HO.out)
   have H10 := Lib.hid (@stp_10 A j)
   have H8 := Lib.hid (@stp_8 A j)
   have H1 := Lib.hid (@stp_1 A j)
   have HZ0 := Lib.hid (@stp_z A j)
   have HP0 := Lib.hid (@stp_0 A j)
   have HYZ := Lib.hid (HZ.out (aca A j) (aca_mem (by rw [HN.out]; exact hlt)))
   generalize hy : aca A j = y at *
   have HY := Lib.hid hy
   have HG := Lib.hid hg
   obtain ⟨V2, hst, hb2, hbx⟩ := new_ac wr y
   have HB2 := Lib.hid (HB.out.trans (hb2.mono HB.out.size))
   have CN := ref_isname y.1 V2 HYZ.out
   generalize hnm : isName (nums y.1) = nm at *
   clear hrx hg hb2 hnm hy
   go_upto_region 4 with fail
   refine wl <| gzb (lss_n rfl (j) (n) dT) <| wn ?_
   simp only [pu]
   go_upto_region 5 with fail
   refine wl <| gz1 (.int .i64 j) <| gzv (.pointer (some ⟨b, off + j * 3, none⟩)) (idx_ac b off n k j hlt _ _ _ rfl (by kernel_rfl) (by kernel_rfl)) <| gzl rfl ⟨b, off + j * 3, none⟩ (.agg (acA y)) (HLD.out) ?_
   simp only [pu]
   refine run_to rfl (some 4) rfl (.pointer (some ⟨wr.heap.size, 0, none⟩)) (wr.alloc (.cells (acA zAc) 24)) (by kernel_rfl) ?_
   simp only [pu]
   refine gz1 (.int .i64 j) <| gzs rfl (hst) <| wn ?_
   simp only [pu]
   obtain ⟨g4, hg4⟩ : ∃ g4, wr.heap.size = g4 := ⟨_, rfl⟩
   rw [hg4] at hbx ⊢
   clear hst hg4
   go_upto_region 6 with fail
   cases nm
   ·skip
    refine wl <| gz1 (.pointer (some ⟨g4, 0, none⟩)) <| gzl rfl ⟨g4, 0, none⟩ (.string y.1) (hbx.load (i := 0) rfl (by kernel_rfl)) <| gzc (.bool false) (fun w' => V2 = w') (CN) (fun V3 hV3 => ?_)
    simp only [pu]
    refine gz1 (.bool true) <| wn ?_
    simp only [pu]
    subst hV3
    have HB3 := HB2
    have HX4 := Lib.hid hbx
    clear hbx CN HB2
    obtain rfl := HER.out 10 (H10.out rfl) (by decide)
    have HB9 := Lib.hid (HB0.out.trans (HB3.out.mono HB0.out.size))
    clear HER H10 H8 H1 HZ0 HP0 HB3 HLD HB
    go_upto_region 7 with fail
    refine wl <| gz1 (.int .i64 10) <| wn ?_
    simp only [pu]
    go_wp2_with fail
    go_ret
    exact ⟨rfl, HB9.out⟩
   ·skip
    refine wl <| gz1 (.pointer (some ⟨g4, 0, none⟩)) <| gzl rfl ⟨g4, 0, none⟩ (.string y.1) (hbx.load (i := 0) rfl (by kernel_rfl)) <| gzc (.bool true) (fun w' => V2 = w') (CN) (fun V3 hV3 => ?_)
    simp only [pu]
    refine gz1 (.bool false) <| wn ?_
    simp only [pu]
    subst hV3
    have HB3 := HB2
    have HX4 := Lib.hid hbx
    clear hbx CN HB2
    clear H10
    clear HLD
    by_cases hpos : 0 < j
    ·skip
     obtain ⟨b2, off2, ea, -, hrx⟩ := ac_range (HA.out.below HB3.out.drew) (k := j - 1) (by rw [HN.out]; omega)
     simp only [Option.some.injEq, Addr.mk.injEq, and_true] at ea
     obtain ⟨rfl, rfl⟩ := ea
     have HLX := Lib.hid (nm_at hrx)
     have HX4d := Lib.hid (HX4.out.below HX4.out.lt ((Below.refl _ V2).drew))
     generalize hx : aca A (j - 1) = x at *
     clear hrx
     by_cases he : x.1 = y.1
     ·skip
      go_upto_region 8 with fail
      refine wp_region_class (C := fun U => U = V2.drew) (by kernel_rfl) (by kernel_rfl) (rfl) ?_
      refine gy (.int .i64 j) <| gyv (.bool true) (fun U hU => gtr_n rfl (j) (0) dT (by kernel_rfl) (by kernel_rfl) _) <| gy (.bool true) <| gy (.pointer (some ⟨g0, 0, none⟩)) <|
        gyl rfl ⟨g0, 0, none⟩ (.slice (some ⟨b, off, none⟩) n k) (fun U hU => by rw [hU]; exact (HX.out.below HX.out.lt HB3.out.drew).load (i := 0) rfl (by kernel_rfl)) <| gy (.int .i64 j) <| gyv (.int .i64 (j - 1 : Nat)) (fun U hU => sub_p rfl j hpos (by omega) (by kernel_rfl) (by kernel_rfl) _) <|
        gyv (.pointer (some ⟨b, off + (j - 1) * 3, none⟩)) (fun U hU => idx_ac b off n k (j - 1) (by omega) _ _ _ rfl (by kernel_rfl) (by kernel_rfl)) <| gy (.pointer (some ⟨b, off + (j - 1) * 3, none⟩)) <|
        gyl rfl ⟨b, off + (j - 1) * 3, none⟩ (.string x.1) (fun U hU => by rw [hU]; exact HLX.out.load) <| gy (.pointer (some ⟨g4, 0, none⟩)) <| gyl rfl ⟨g4, 0, none⟩ (.string y.1) (fun U hU => by rw [hU]; exact HX4d.out.load (i := 0) rfl (by kernel_rfl)) <|
        gyv (.bool true) (fun U hU => eql_s rfl x.1 y.1 (by rw [beqB]; exact decide_eq_true he) (by kernel_rfl) (by kernel_rfl) _) <| gy (.bool true) ?_
      simp only [pu]
      apply wpQuiet_nil
      intro U hU
      subst hU
      obtain rfl := HER.out 8 (H8.out rfl hpos he) (by decide)
      have HB9 := Lib.hid (HB0.out.trans (HB3.out.drew.mono HB0.out.size))
      clear HER H8 H1 HZ0 HP0 HB3 HB
      go_upto_region 9 with fail
      refine wl <| gz1 (.int .i64 8) <| wn ?_
      simp only [pu]
      go_wp2_with fail
      go_ret
      exact ⟨rfl, HB9.out⟩
     generalize hl9 : ltS y.1 x.1 = lt9 at *
     cases lt9
     ·skip
      go_upto_region 8 with fail
      refine wp_region_class (C := fun U => U = V2.drew) (by kernel_rfl) (by kernel_rfl) (rfl) ?_
      refine gy (.int .i64 j) <| gyv (.bool true) (fun U hU => gtr_n rfl (j) (0) dT (by kernel_rfl) (by kernel_rfl) _) <| gy (.bool true) <| gy (.pointer (some ⟨g0, 0, none⟩)) <|
        gyl rfl ⟨g0, 0, none⟩ (.slice (some ⟨b, off, none⟩) n k) (fun U hU => by rw [hU]; exact (HX.out.below HX.out.lt HB3.out.drew).load (i := 0) rfl (by kernel_rfl)) <| gy (.int .i64 j) <| gyv (.int .i64 (j - 1 : Nat)) (fun U hU => sub_p rfl j hpos (by omega) (by kernel_rfl) (by kernel_rfl) _) <|
        gyv (.pointer (some ⟨b, off + (j - 1) * 3, none⟩)) (fun U hU => idx_ac b off n k (j - 1) (by omega) _ _ _ rfl (by kernel_rfl) (by kernel_rfl)) <| gy (.pointer (some ⟨b, off + (j - 1) * 3, none⟩)) <|
        gyl rfl ⟨b, off + (j - 1) * 3, none⟩ (.string x.1) (fun U hU => by rw [hU]; exact HLX.out.load) <| gy (.pointer (some ⟨g4, 0, none⟩)) <| gyl rfl ⟨g4, 0, none⟩ (.string y.1) (fun U hU => by rw [hU]; exact HX4d.out.load (i := 0) rfl (by kernel_rfl)) <|
        gyv (.bool false) (fun U hU => eql_s rfl x.1 y.1 (by rw [beqB]; exact decide_eq_false he) (by kernel_rfl) (by kernel_rfl) _) <| gy (.bool false) ?_
      simp only [pu]
      apply wpQuiet_nil
      intro U hU
      subst hU
      have HX4d2 := Lib.hid (HX4d.out.below HX4d.out.lt ((Below.refl _ V2.drew).drew))
      have HLX2 := Lib.hid HLX.out.drew
      have HB3d := Lib.hid HB3.out.drew
      clear HX4d HLX HB3 HX4
      generalize V2.drew = V5 at *
      have HB3 := HB3d
      have HLX := HLX2
      have HX4d := HX4d2
      clear HB3d HLX2 HX4d2
      go_upto_region 10 with fail
      refine wp_region_class (C := fun U => U = V5.drew) (by kernel_rfl) (by kernel_rfl) (rfl) ?_
      refine gy (.int .i64 j) <| gyv (.bool true) (fun U hU => gtr_n rfl (j) (0) dT (by kernel_rfl) (by kernel_rfl) _) <| gy (.bool true) <| gy (.pointer (some ⟨g0, 0, none⟩)) <|
        gyl rfl ⟨g0, 0, none⟩ (.slice (some ⟨b, off, none⟩) n k) (fun U hU => by rw [hU]; exact (HX.out.below HX.out.lt HB3.out.drew).load (i := 0) rfl (by kernel_rfl)) <| gy (.int .i64 j) <| gyv (.int .i64 (j - 1 : Nat)) (fun U hU => sub_p rfl j hpos (by omega) (by kernel_rfl) (by kernel_rfl) _) <|
        gyv (.pointer (some ⟨b, off + (j - 1) * 3, none⟩)) (fun U hU => idx_ac b off n k (j - 1) (by omega) _ _ _ rfl (by kernel_rfl) (by kernel_rfl)) <| gy (.pointer (some ⟨b, off + (j - 1) * 3, none⟩)) <|
        gyl rfl ⟨b, off + (j - 1) * 3, none⟩ (.string x.1) (fun U hU => by rw [hU]; exact HLX.out.load) <| gy (.pointer (some ⟨g4, 0, none⟩)) <| gyl rfl ⟨g4, 0, none⟩ (.string y.1) (fun U hU => by rw [hU]; exact HX4d.out.load (i := 0) rfl (by kernel_rfl)) <|
        gyv (.bool false) (fun U hU => gtr_s rfl x.1 y.1 hl9 (by kernel_rfl) (by kernel_rfl) _) <| gy (.bool false) ?_
      simp only [pu]
      apply wpQuiet_nil
      intro U hU
      subst hU
      replace HB3 := Lib.hid HB3.out.drew
      clear HLX HX4d
      have HO9 : Hid (∀ t, t < j + 1 → stpE A t = 0) := Lib.hid fun t ht => (by rcases Nat.lt_or_ge t j with h7 | h7; exact HO.out t h7; have e7 : t = j := (by omega); rw [e7]; exact HP0.out rfl he rfl)
      clear HER H8 H1 HZ0 HP0 HB HO
      go_upto_region 12 with fail
      refine wl <| gzw (.int .i64 (j + 1 : Nat)) (add_nat rfl j 1 (by omega)) <| gz1 (.int .i64 (j + 1 : Nat)) <| wn ?_
      simp only [pu]
      go_wp2_with fail
      go_roundg (n - (j + 1))
      case measure => have := HG.out; omega
      case rel => exact ⟨j + 1, rfl, hlt, HO9, HB3, rfl⟩
     ·skip
      go_upto_region 8 with fail
      refine wp_region_class (C := fun U => U = V2.drew) (by kernel_rfl) (by kernel_rfl) (rfl) ?_
      refine gy (.int .i64 j) <| gyv (.bool true) (fun U hU => gtr_n rfl (j) (0) dT (by kernel_rfl) (by kernel_rfl) _) <| gy (.bool true) <| gy (.pointer (some ⟨g0, 0, none⟩)) <|
        gyl rfl ⟨g0, 0, none⟩ (.slice (some ⟨b, off, none⟩) n k) (fun U hU => by rw [hU]; exact (HX.out.below HX.out.lt HB3.out.drew).load (i := 0) rfl (by kernel_rfl)) <| gy (.int .i64 j) <| gyv (.int .i64 (j - 1 : Nat)) (fun U hU => sub_p rfl j hpos (by omega) (by kernel_rfl) (by kernel_rfl) _) <|
        gyv (.pointer (some ⟨b, off + (j - 1) * 3, none⟩)) (fun U hU => idx_ac b off n k (j - 1) (by omega) _ _ _ rfl (by kernel_rfl) (by kernel_rfl)) <| gy (.pointer (some ⟨b, off + (j - 1) * 3, none⟩)) <|
        gyl rfl ⟨b, off + (j - 1) * 3, none⟩ (.string x.1) (fun U hU => by rw [hU]; exact HLX.out.load) <| gy (.pointer (some ⟨g4, 0, none⟩)) <| gyl rfl ⟨g4, 0, none⟩ (.string y.1) (fun U hU => by rw [hU]; exact HX4d.out.load (i := 0) rfl (by kernel_rfl)) <|
        gyv (.bool false) (fun U hU => eql_s rfl x.1 y.1 (by rw [beqB]; exact decide_eq_false he) (by kernel_rfl) (by kernel_rfl) _) <| gy (.bool false) ?_
      simp only [pu]
      apply wpQuiet_nil
      intro U hU
      subst hU
      have HX4d2 := Lib.hid (HX4d.out.below HX4d.out.lt ((Below.refl _ V2.drew).drew))
      have HLX2 := Lib.hid HLX.out.drew
      have HB3d := Lib.hid HB3.out.drew
      clear HX4d HLX HB3 HX4
      generalize V2.drew = V5 at *
      have HB3 := HB3d
      have HLX := HLX2
      have HX4d := HX4d2
      clear HB3d HLX2 HX4d2
      go_upto_region 10 with fail
      refine wp_region_class (C := fun U => U = V5.drew) (by kernel_rfl) (by kernel_rfl) (rfl) ?_
      refine gy (.int .i64 j) <| gyv (.bool true) (fun U hU => gtr_n rfl (j) (0) dT (by kernel_rfl) (by kernel_rfl) _) <| gy (.bool true) <| gy (.pointer (some ⟨g0, 0, none⟩)) <|
        gyl rfl ⟨g0, 0, none⟩ (.slice (some ⟨b, off, none⟩) n k) (fun U hU => by rw [hU]; exact (HX.out.below HX.out.lt HB3.out.drew).load (i := 0) rfl (by kernel_rfl)) <| gy (.int .i64 j) <| gyv (.int .i64 (j - 1 : Nat)) (fun U hU => sub_p rfl j hpos (by omega) (by kernel_rfl) (by kernel_rfl) _) <|
        gyv (.pointer (some ⟨b, off + (j - 1) * 3, none⟩)) (fun U hU => idx_ac b off n k (j - 1) (by omega) _ _ _ rfl (by kernel_rfl) (by kernel_rfl)) <| gy (.pointer (some ⟨b, off + (j - 1) * 3, none⟩)) <|
        gyl rfl ⟨b, off + (j - 1) * 3, none⟩ (.string x.1) (fun U hU => by rw [hU]; exact HLX.out.load) <| gy (.pointer (some ⟨g4, 0, none⟩)) <| gyl rfl ⟨g4, 0, none⟩ (.string y.1) (fun U hU => by rw [hU]; exact HX4d.out.load (i := 0) rfl (by kernel_rfl)) <|
        gyv (.bool true) (fun U hU => gtr_s rfl x.1 y.1 hl9 (by kernel_rfl) (by kernel_rfl) _) <| gy (.bool true) ?_
      simp only [pu]
      apply wpQuiet_nil
      intro U hU
      subst hU
      replace HB3 := Lib.hid HB3.out.drew
      clear HLX HX4d
      obtain rfl := HER.out 1 (H1.out rfl hpos he rfl) (by decide)
      have HB9 := Lib.hid (HB0.out.trans (HB3.out.mono HB0.out.size))
      clear HER H8 H1 HZ0 HP0 HB3 HB
      go_upto_region 11 with fail
      refine wl <| gz1 (.int .i64 1) <| wn ?_
      simp only [pu]
      go_wp2_with fail
      go_ret
      exact ⟨rfl, HB9.out⟩
    ·skip
     have HX4d := Lib.hid HX4.out
     go_upto_region 8 with fail
     refine wp_region_class (C := fun U => U = V2.drew) (by kernel_rfl) (by kernel_rfl) (rfl) ?_
     refine gy (.int .i64 j) <| gyv (.bool false) (fun U hU => gtr_n rfl (j) (0) dF (by kernel_rfl) (by kernel_rfl) _) <| gy (.bool false) <| gyn <| gyn <| gyn <| gyn <| gyn <| gyn <| gyn <| gyn <| gyn <| gyn <| gy (.bool false) ?_
     simp only [pu]
     apply wpQuiet_nil
     intro U hU
     subst hU
     have HB3d := Lib.hid HB3.out.drew
     clear HB3 HX4d HX4
     generalize V2.drew = V5 at *
     have HB3 := HB3d
     clear HB3d
     go_upto_region 10 with fail
     refine wp_region_class (C := fun U => U = V5.drew) (by kernel_rfl) (by kernel_rfl) (rfl) ?_
     refine gy (.int .i64 j) <| gyv (.bool false) (fun U hU => gtr_n rfl (j) (0) dF (by kernel_rfl) (by kernel_rfl) _) <| gy (.bool false) <| gyn <| gyn <| gyn <| gyn <| gyn <| gyn <| gyn <| gyn <| gyn <| gyn <| gy (.bool false) ?_
     simp only [pu]
     apply wpQuiet_nil
     intro U hU
     subst hU
     replace HB3 := Lib.hid HB3.out.drew
     have HO9 : Hid (∀ t, t < j + 1 → stpE A t = 0) := Lib.hid fun t ht => (by rcases Nat.lt_or_ge t j with h7 | h7; exact HO.out t h7; have e7 : t = j := (by omega); rw [e7]; exact HZ0.out rfl hpos)
     clear HER H8 H1 HZ0 HP0 HB HO
     go_upto_region 12 with fail
     refine wl <| gzw (.int .i64 (j + 1 : Nat)) (add_nat rfl j 1 (by omega)) <| gz1 (.int .i64 (j + 1 : Nat)) <| wn ?_
     simp only [pu]
     go_wp2_with fail
     go_roundg (n - (j + 1))
     case measure => have := HG.out; omega
     case rel => exact ⟨j + 1, rfl, hlt, HO9, HB3, rfl⟩
  ·skip
   obtain rfl : n = j := by omega
   obtain rfl := HE1.out HBG.out HO.out
   have CT := CL.out wr a (HA.out.below HB.out)
   have HX4 := Lib.hid (HX.out.below HX.out.lt HB.out)
   clear hg HE1 HE0 CL HO
   go_upto_region 4 with fail
   refine wl <| gzb (lss_n rfl (n) (n) dF) <| wn ?_
   simp only [pu]
   go_upto_region 13 with fail
   cases tb
   ·skip
    refine wl <| gzl rfl ⟨g0, 0, none⟩ (.agg (lgA a n k c)) (load_lg HX4.out) <| gzc (.tuple #[.int .u64 tv, .bool false]) (fun w' => Below wr.heap.size wr w') (CT) (fun V2 hV2 => ?_)
    have HB9 := Lib.hid (HB0.out.trans ((HB.out.trans (hV2.mono HB.out.size)).mono HB0.out.size))
    simp only [pu]
    refine gz5 (.tuple #[.int .u64 tv, .bool false]) (.int .u64 tv) (.bool false) (.int .u64 tv) (.bool false) <| wn ?_
    simp only [pu]
    clear CT hV2 HB
    go_upto_region 14 with fail
    refine wl <| gz2 (.bool false) (.bool true) <| wn ?_
    simp only [pu]
    go_upto_region 15 with fail
    refine wl <| gz1 (.int .i64 6) <| wn ?_
    simp only [pu]
    go_wp2_with fail
    go_ret
    exact ⟨rfl, HB9.out⟩
   ·skip
    refine wl <| gzl rfl ⟨g0, 0, none⟩ (.agg (lgA a n k c)) (load_lg HX4.out) <| gzc (.tuple #[.int .u64 tv, .bool true]) (fun w' => Below wr.heap.size wr w') (CT) (fun V2 hV2 => ?_)
    have HB9 := Lib.hid (HB0.out.trans ((HB.out.trans (hV2.mono HB.out.size)).mono HB0.out.size))
    simp only [pu]
    refine gz5 (.tuple #[.int .u64 tv, .bool true]) (.int .u64 tv) (.bool true) (.int .u64 tv) (.bool true) <| wn ?_
    simp only [pu]
    clear CT hV2 HB
    go_upto_region 14 with fail
    refine wl <| gz2 (.bool true) (.bool false) <| wn ?_
    simp only [pu]
    go_upto_region 16 with fail
    refine wl <| gz1 (.int .i64 0) <| wn ?_
    simp only [pu]
    go_wp2_with fail
    go_ret
    exact ⟨rfl, HB9.out⟩
end Go.Proofs.Ytglglhcnofbagaa.Lg
