/-
  The reference's read: contract.
-/
import Derived.Test.YtglglhcnofbagaaJ11
namespace Go.Proofs.Ytglglhcnofbagaa
attribute [local irreducible] wpList wpQuiet
open Go.RowKit
set_option linter.unusedSimpArgs false
set_option linter.unusedVariables false

/-- What was read so far of a transaction's fields. -/
def XJ (P : List Fld) (j : Nat) (t : Txd) : Prop := rfX zX P = rfX t (P.drop j)
theorem XJ.zero (P : List Fld) : XJ P 0 zX := by unfold XJ; rw [List.drop_zero]
theorem XJ.step {P : List Fld} {j : Nat} {t u : Txd} (h : XJ P j t) (hj : j < P.length) (hc : rfS t P[j] = some u) : XJ P (j + 1) u := by
 unfold XJ at *
 rw [h, List.drop_eq_getElem_cons hj, rfX_cons, hc, Option.bind_some]
theorem XJ.fail {P : List Fld} {j : Nat} {t : Txd} (h : XJ P j t) (hj : j < P.length) (hc : rfS t P[j] = none) : rfX zX P = none := by
 unfold XJ at *
 rw [h, List.drop_eq_getElem_cons hj, rfX_cons, hc, Option.bind_none]
theorem XJ.done {P : List Fld} {j : Nat} {t : Txd} (h : XJ P j t) (hj : P.length ≤ j) : rfX zX P = some t := by
 unfold XJ at *
 rw [h, List.drop_eq_nil_of_le hj, rfX]
set_option maxRecDepth 100000 in
set_option maxHeartbeats 8000000 in
theorem ref_read10 (a : Option Addr) (c : Nat) (ps : List (Fld × Value)) (B : Nat) (w : World) (hF : FsB w B a ps) (hc : ps.length ≤ c) (hv : ∀ f, f ∈ ps.map Prod.fst → Vf f) (hbl : ∀ f, f ∈ ps.map Prod.fst → f.bytes.length ≤ 100000) (hnl : ps.length ≤ 100000) :
  Calls Try.prog 37 #[.slice a ps.length c] w (RdO w (rfX zX (ps.map Prod.fst))) := by
 have hb1 : Below w.heap.size w (w.alloc (.cells (txA zX none 0) 32)) := (Below.refl _ w).alloc (Nat.le_refl _) _
 have hX1 : Bx (w.alloc (.cells (txA zX none 0) 32)) w.heap.size (txA zX none 0) 32 := heap_alloc_last w _
 have hsz1 : (w.alloc (.cells (txA zX none 0) 32)).heap.size = w.heap.size + 1 := by simp
 have HTO : Hid (∀ V t ok a2 c2, Below w.heap.size w V → rfX zX (ps.map Prod.fst) = (if ok = true then some t else none) → RowT V w.heap.size (.slice a2 t.tr.length c2) t.tr → RdO w (rfX zX (ps.map Prod.fst)) (.returned (.tuple #[.agg (txA t a2 c2), .bool ok])) V) := Lib.hid fun V t ok a2 c2 hb e hr => ⟨t, ok, a2, c2, rfl, e, hr, hb⟩
 have HVF := Lib.hid hv
 have HBL := Lib.hid hbl
 have HNL := Lib.hid hnl
 have HF := Lib.hid hF
 have HCC := Lib.hid hF.cap
 have HJ0 := Lib.hid (XJ.zero (ps.map Prod.fst))
 have HST := Lib.hid (fun j t u h hj hc => @XJ.step (ps.map Prod.fst) j t u h hj hc)
 have HFA := Lib.hid (fun j t h hj hc => @XJ.fail (ps.map Prod.fst) j t h hj hc)
 have HDN := Lib.hid (fun j t h hj => @XJ.done (ps.map Prod.fst) j t h hj)
 generalize rfX zX (ps.map Prod.fst) = RR at *
 obtain ⟨n, hn⟩ : ∃ n, ps.length = n := ⟨_, rfl⟩
 have HN := Lib.hid hn
 rw [hn] at HNL ⊢
 clear hF hc hv hbl hnl hn
 go_enter Try.func37, Try.ntmps37
 go_upto_region 1 with fail
 change Code.wp _ _ _ _ (w.alloc (.cells (txA zX none 0) 32))
 generalize w.alloc (.cells (txA zX none 0) 32) = W1 at *
 apply wp_region_lit
 refine run_to rfl (some 4) rfl (.pointer (some ⟨W1.heap.size, 0, none⟩)) (W1.alloc (.cells (txA zX none 0) 32)) (by kernel_rfl) ?_
 simp only [pu]
 apply wpList_nil
 have hb0 : Below w.heap.size w (W1.alloc (.cells (txA zX none 0) 32)) := hb1.alloc hb1.size _
 have hX0 : Bx (W1.alloc (.cells (txA zX none 0) 32)) w.heap.size (txA zX none 0) 32 := hX1.below hX1.lt ((Below.refl _ W1).alloc (Nat.le_refl _) _)
 have hY0 : Bx (W1.alloc (.cells (txA zX none 0) 32)) W1.heap.size (txA zX none 0) 32 := heap_alloc_last W1 _
 generalize W1.alloc (.cells (txA zX none 0) 32) = W at *
 obtain ⟨g2, hg2⟩ : ∃ g2, w.heap.size = g2 := ⟨_, rfl⟩
 obtain ⟨g4, hg4⟩ : ∃ g4, W1.heap.size = g4 := ⟨_, rfl⟩
 have HB0 := Lib.hid hb0
 have HG2 : Hid (w.heap.size ≤ g2 ∧ w.heap.size ≤ g4 ∧ g2 ≠ g4) := Lib.hid ⟨by omega, by omega, by omega⟩
 rw [hg4] at hY0 ⊢
 rw [hg2] at hX0 ⊢
 have HX2 := Lib.hid hX0
 have HX4 := Lib.hid hY0
 have HGW : Hid (g2 < W.heap.size ∧ g4 < W.heap.size) := Lib.hid ⟨hX0.lt, hY0.lt⟩
 have HWW : Hid (w.heap.size ≤ W.heap.size) := Lib.hid hb0.size
 clear hb0 hb1 hX1 hsz1 hg2 hg4 hX0 hY0
 go_upto_region 2 with fail
 refine wl <| gz3 (.slice a n c) (.int .i64 n) (.int .i64 0) <| wn ?_
 simp only [pu]
 go_wp2_with fail
 go_loopg [11] n (fun gg s11 wx => ∃ (j : Nat) (s1 : ByteArray) (m2 m3 m4 : Int) (s5 : ByteArray) (A : List Tf) (a6 : Option Addr) (c6 : Nat), s11 = .int .i64 j ∧ j ≤ n ∧ Hid (A.length ≤ j) ∧ Hid (Bx wx g2 (txA zX none 0) 32) ∧ Hid (Bx wx g4 (txA ⟨s1, m2, m3, m4, s5, A⟩ a6 c6) 32) ∧ Hid (RowT wx W.heap.size (.slice a6 A.length c6) A) ∧ Hid (XJ (ps.map Prod.fst) j ⟨s1, m2, m3, m4, s5, A⟩) ∧ Hid (Below w.heap.size w wx) ∧ Hid (W.heap.size ≤ wx.heap.size) ∧ n - j = gg)
 case atStart => exact ⟨0, mtS, 0, 0, 0, mtS, [], none, 0, rfl, by omega, Lib.hid (Nat.zero_le _), HX2, HX4, Lib.hid (RowT.nil _ _), HJ0, HB0, Lib.hid (Nat.le_refl _), by omega⟩
 case round =>
  obtain ⟨j, s1, m2, m3, m4, s5, A, a6, c6, rfl, hj, HAL, HB2, HB4, HRT, HJ, HBB, HSZ, hg⟩ := hrel
  clear HX2 HX4 HJ0 HB0
  by_cases hlt : j < n
  ·skip
   have HG : Hid (n - (j + 1) = gk - 1 ∧ 0 < gk ∧ j + 1 ≤ n ∧ j + 1 ≤ 100000) := Lib.hid ⟨by omega, by omega, by omega, by have := HNL.out; omega⟩
   have hjq : j < ps.length := by rw [HN.out]; exact hlt
   obtain ⟨b, off, ba, bc, rfl, hp2, hsl, hbox⟩ := (HF.out.below HBB.out).fs j ps[j] (List.getElem?_eq_getElem hjq)
   have hvx := HVF.out ps[j].1 (by exact List.mem_map_of_mem (List.getElem_mem hjq))
   have hbl := HBL.out ps[j].1 (by exact List.mem_map_of_mem (List.getElem_mem hjq))
   have hjm : j < (ps.map Prod.fst).length := by rw [List.length_map]; exact hjq
   have hgx : (ps.map Prod.fst)[j] = ps[j].1 := List.getElem_map ..
   have HS1 := Lib.hid (fun u (hc : rfS ⟨s1, m2, m3, m4, s5, A⟩ ps[j].1 = some u) => HST.out j _ u HJ.out hjm (by rw [hgx]; exact hc))
   have HS2 := Lib.hid (fun (hc : rfS ⟨s1, m2, m3, m4, s5, A⟩ ps[j].1 = none) => HFA.out j _ HJ.out hjm (by rw [hgx]; exact hc))
   have hba : ps[j].1.bytes.length ≤ bc := HCC.out ps[j] (List.getElem_mem hjq) ba ps[j].1.bytes.length bc hp2
   generalize ps[j].1 = y at *
   have hld := load_fd (fd_range hbox)
   obtain ⟨V6, hst, hb6, hbx⟩ := new_fd wr y ba bc
   have hX2 := HB2.out.below HB2.out.lt hb6
   have hX4 := HB4.out.below HB4.out.lt hb6
   have hRT := HRT.out.below hb6
   have HB6 := Lib.hid (HBB.out.trans (hb6.mono HBB.out.size))
   have HW6 : Hid (W.heap.size ≤ V6.heap.size) := Lib.hid (Nat.le_trans HSZ.out hb6.size)
   have hs6 := sl_below hsl hb6
   clear hp2 hsl hbox hjm hgx HJ hb6 hg hjq HB2 HB4 HRT HBB HSZ
   have HVX := Lib.hid hvx
   have hk0 : y.kind = 0 ∨ y.kind = 2 := by rcases hvx.1.2.2 with q | q; exact .inl q.1; exact .inr q.1
   clear hvx
   go_upto_region 3 with fail
   refine wl <| gzb (lss_n rfl (j) (n) dT) <| wn ?_
   simp only [pu]
   go_upto_region 4 with fail
   refine wl <| gzv (.pointer (some ⟨b, off + j * 4, none⟩)) (idx_fd b off n c j hlt _ _ _ rfl (by kernel_rfl) (by kernel_rfl)) <| gzl rfl ⟨b, off + j * 4, none⟩ (.agg (fdA y ba bc)) (hld) ?_
   simp only [pu]
   refine run_to rfl (some 6) rfl (.pointer (some ⟨wr.heap.size, 0, none⟩)) (wr.alloc (.cells (fdA zeroF none 0) 66)) (by kernel_rfl) ?_
   simp only [pu]
   refine gzs rfl (hst) <| wn ?_
   obtain ⟨g9, hg9⟩ : ∃ g9, wr.heap.size = g9 := ⟨_, rfl⟩
   rw [hg9] at hbx ⊢
   clear hst hg9 hld
   have hall : (y.num = 1 ∧ y.kind = 2) ∨ (y.num = 2 ∧ y.kind = 0) ∨ (y.num = 3 ∧ y.kind = 0) ∨ (y.num = 4 ∧ y.kind = 0) ∨ (y.num = 5 ∧ y.kind = 2) ∨ (y.num = 6 ∧ y.kind = 2) ∨ (y.num = 1 ∧ y.kind ≠ 2) ∨ (y.num = 2 ∧ y.kind ≠ 0) ∨ (y.num = 3 ∧ y.kind ≠ 0) ∨ (y.num = 4 ∧ y.kind ≠ 0) ∨ (y.num = 5 ∧ y.kind ≠ 2) ∨ (y.num = 6 ∧ y.kind ≠ 2) ∨ (y.num < 1 ∨ 6 < y.num) := by omega
   rcases hall with hcs | hcs | hcs | hcs | hcs | hcs | hcs | hcs | hcs | hcs | hcs | hcs | hcs
   ·skip
    have hrf : rfS ⟨s1, m2, m3, m4, s5, A⟩ y = some ⟨(strOfNums y.bytes), m2, m3, m4, s5, A⟩ := by unfold rfS; simp [hcs.1, hcs.2]
    have HJ8 := Lib.hid (HS1.out _ hrf)
    go_upto_region 6 with fail
    refine wl <| gz1 (.pointer (some ⟨g9, 0, none⟩)) <| gzl rfl ⟨g9, 0, none⟩ (.int .i64 y.num) (hbx.load (i := 0) rfl (by kernel_rfl)) <| gzb (eql_n rfl (y.num) (1) (decide_eq_true (hcs.1))) <|
     gz2 (.bool true) (.pointer (some ⟨g9, 1, none⟩)) <| gzl rfl ⟨g9, 1, none⟩ (.int .i64 y.kind) (hbx.load (i := 1) rfl (by kernel_rfl)) <| gzb (eql_n rfl (y.kind) (2) (decide_eq_true (hcs.2))) <| gz2 (.bool true) (.bool true) <| wn ?_
    simp only [pu]
    obtain ⟨V8, hst8, hX8, hb8, hbut8⟩ := st_cell (i := 0) (ty := 9) (v := .string (strOfNums y.bytes)) (cs' := txA ⟨(strOfNums y.bytes), m2, m3, m4, s5, A⟩ a6 c6) hX4 HB6.out HG2.out.2.1 (by show 0 < 6; decide) rfl (by kernel_rfl) rfl
    have HX48 := Lib.hid hX8
    have HX28 := Lib.hid (hX2.but hbut8 HG2.out.2.2)
    have HR8 := Lib.hid (hRT.but hbut8 HGW.out.2)
    have HB8 := Lib.hid hb8
    have HW8 : Hid (W.heap.size ≤ V8.heap.size) := Lib.hid (Nat.le_trans HW6.out hbut8.1.size)
    have HA8 : Hid (A.length ≤ j + 1) := Lib.hid (Nat.le_succ_of_le HAL.out)
    go_upto_region 7 with fail
    refine wl <| gz1 (.pointer (some ⟨g9, 3, none⟩)) <| gzl rfl ⟨g9, 3, none⟩ (.slice ba y.bytes.length bc) (hbx.load (i := 3) rfl (by kernel_rfl)) <| gzv (.string (strOfNums y.bytes)) (ex_str rfl hs6 (by kernel_rfl)) <| gz1 (.pointer (some ⟨g4, 0, none⟩)) <| gzs rfl (hst8) <|
     wpList_nil ?_
    simp only [pu]
    clear hst8 hX8 hb8 hbut8 hX2 hX4 hRT hbx hs6 HS1 HS2 hrf HAL HB6 HW6
    go_upto_region 21 with fail
    refine wl <| gzv (.int .i64 (j + 1 : Nat)) (add_one rfl j (by have := HG.out; omega) (by kernel_rfl) _) <| gz1 (.int .i64 (j + 1 : Nat)) <| wn ?_
    simp only [pu]
    go_wp2_with fail
    go_roundg (gk - 1)
    case measure => have := HG.out; omega
    case rel => exact ⟨j + 1, (strOfNums y.bytes), m2, m3, m4, s5, A, a6, c6, rfl, HG.out.2.2.1, HA8, HX28, HX48, HR8, HJ8, HB8, HW8, HG.out.1⟩
   ·skip
    have hrf : rfS ⟨s1, m2, m3, m4, s5, A⟩ y = some ⟨s1, y.val, m3, m4, s5, A⟩ := by unfold rfS; simp [hcs.1, hcs.2]
    have HJ8 := Lib.hid (HS1.out _ hrf)
    go_upto_region 6 with fail
    refine wl <| gz1 (.pointer (some ⟨g9, 0, none⟩)) <| gzl rfl ⟨g9, 0, none⟩ (.int .i64 y.num) (hbx.load (i := 0) rfl (by kernel_rfl)) <| gzb (eql_n rfl (y.num) (1) dF) <|
     gz6 (.bool false) undef undef undef (.bool false) (.bool false) <| wn ?_
    simp only [pu]
    go_upto_region 8 with fail
    refine wl <| gz1 (.pointer (some ⟨g9, 0, none⟩)) <| gzl rfl ⟨g9, 0, none⟩ (.int .i64 y.num) (hbx.load (i := 0) rfl (by kernel_rfl)) <| gzb (eql_n rfl (y.num) (2) (decide_eq_true (hcs.1))) <|
     gz2 (.bool true) (.pointer (some ⟨g9, 1, none⟩)) <| gzl rfl ⟨g9, 1, none⟩ (.int .i64 y.kind) (hbx.load (i := 1) rfl (by kernel_rfl)) <| gzb (eql_n rfl (y.kind) (0) (decide_eq_true (hcs.2))) <| gz2 (.bool true) (.bool true) <| wn ?_
    simp only [pu]
    obtain ⟨V8, hst8, hX8, hb8, hbut8⟩ := st_cell (i := 1) (ty := 22) (v := .int .u64 y.val) (cs' := txA ⟨s1, y.val, m3, m4, s5, A⟩ a6 c6) hX4 HB6.out HG2.out.2.1 (by show 1 < 6; decide) rfl (by kernel_rfl) rfl
    have HX48 := Lib.hid hX8
    have HX28 := Lib.hid (hX2.but hbut8 HG2.out.2.2)
    have HR8 := Lib.hid (hRT.but hbut8 HGW.out.2)
    have HB8 := Lib.hid hb8
    have HW8 : Hid (W.heap.size ≤ V8.heap.size) := Lib.hid (Nat.le_trans HW6.out hbut8.1.size)
    have HA8 : Hid (A.length ≤ j + 1) := Lib.hid (Nat.le_succ_of_le HAL.out)
    go_upto_region 9 with fail
    refine wl <| gz1 (.pointer (some ⟨g9, 2, none⟩)) <| gzl rfl ⟨g9, 2, none⟩ (.int .u64 y.val) (hbx.load (i := 2) rfl (by kernel_rfl)) <| gz1 (.pointer (some ⟨g4, 1, none⟩)) <| gzs rfl (hst8) <| wn ?_
    simp only [pu]
    clear hst8 hX8 hb8 hbut8 hX2 hX4 hRT hbx hs6 HS1 HS2 hrf HAL HB6 HW6
    go_upto_region 21 with fail
    refine wl <| gzv (.int .i64 (j + 1 : Nat)) (add_one rfl j (by have := HG.out; omega) (by kernel_rfl) _) <| gz1 (.int .i64 (j + 1 : Nat)) <| wn ?_
    simp only [pu]
    go_wp2_with fail
    go_roundg (gk - 1)
    case measure => have := HG.out; omega
    case rel => exact ⟨j + 1, s1, y.val, m3, m4, s5, A, a6, c6, rfl, HG.out.2.2.1, HA8, HX28, HX48, HR8, HJ8, HB8, HW8, HG.out.1⟩
   ·skip
    have hrf : rfS ⟨s1, m2, m3, m4, s5, A⟩ y = some ⟨s1, m2, y.val, m4, s5, A⟩ := by unfold rfS; simp [hcs.1, hcs.2]
    have HJ8 := Lib.hid (HS1.out _ hrf)
    go_upto_region 6 with fail
    refine wl <| gz1 (.pointer (some ⟨g9, 0, none⟩)) <| gzl rfl ⟨g9, 0, none⟩ (.int .i64 y.num) (hbx.load (i := 0) rfl (by kernel_rfl)) <| gzb (eql_n rfl (y.num) (1) dF) <|
     gz6 (.bool false) undef undef undef (.bool false) (.bool false) <| wn ?_
    simp only [pu]
    go_upto_region 8 with fail
    refine wl <| gz1 (.pointer (some ⟨g9, 0, none⟩)) <| gzl rfl ⟨g9, 0, none⟩ (.int .i64 y.num) (hbx.load (i := 0) rfl (by kernel_rfl)) <| gzb (eql_n rfl (y.num) (2) dF) <|
     gz6 (.bool false) undef undef undef (.bool false) (.bool false) <| wn ?_
    simp only [pu]
    go_upto_region 10 with fail
    refine wl <| gz1 (.pointer (some ⟨g9, 0, none⟩)) <| gzl rfl ⟨g9, 0, none⟩ (.int .i64 y.num) (hbx.load (i := 0) rfl (by kernel_rfl)) <| gzb (eql_n rfl (y.num) (3) (decide_eq_true (hcs.1))) <|
     gz2 (.bool true) (.pointer (some ⟨g9, 1, none⟩)) <| gzl rfl ⟨g9, 1, none⟩ (.int .i64 y.kind) (hbx.load (i := 1) rfl (by kernel_rfl)) <| gzb (eql_n rfl (y.kind) (0) (decide_eq_true (hcs.2))) <| gz2 (.bool true) (.bool true) <| wn ?_
    simp only [pu]
    obtain ⟨V8, hst8, hX8, hb8, hbut8⟩ := st_cell (i := 2) (ty := 22) (v := .int .u64 y.val) (cs' := txA ⟨s1, m2, y.val, m4, s5, A⟩ a6 c6) hX4 HB6.out HG2.out.2.1 (by show 2 < 6; decide) rfl (by kernel_rfl) rfl
    have HX48 := Lib.hid hX8
    have HX28 := Lib.hid (hX2.but hbut8 HG2.out.2.2)
    have HR8 := Lib.hid (hRT.but hbut8 HGW.out.2)
    have HB8 := Lib.hid hb8
    have HW8 : Hid (W.heap.size ≤ V8.heap.size) := Lib.hid (Nat.le_trans HW6.out hbut8.1.size)
    have HA8 : Hid (A.length ≤ j + 1) := Lib.hid (Nat.le_succ_of_le HAL.out)
    go_upto_region 11 with fail
    refine wl <| gz1 (.pointer (some ⟨g9, 2, none⟩)) <| gzl rfl ⟨g9, 2, none⟩ (.int .u64 y.val) (hbx.load (i := 2) rfl (by kernel_rfl)) <| gz1 (.pointer (some ⟨g4, 2, none⟩)) <| gzs rfl (hst8) <| wn ?_
    simp only [pu]
    clear hst8 hX8 hb8 hbut8 hX2 hX4 hRT hbx hs6 HS1 HS2 hrf HAL HB6 HW6
    go_upto_region 21 with fail
    refine wl <| gzv (.int .i64 (j + 1 : Nat)) (add_one rfl j (by have := HG.out; omega) (by kernel_rfl) _) <| gz1 (.int .i64 (j + 1 : Nat)) <| wn ?_
    simp only [pu]
    go_wp2_with fail
    go_roundg (gk - 1)
    case measure => have := HG.out; omega
    case rel => exact ⟨j + 1, s1, m2, y.val, m4, s5, A, a6, c6, rfl, HG.out.2.2.1, HA8, HX28, HX48, HR8, HJ8, HB8, HW8, HG.out.1⟩
   ·skip
    have hrf : rfS ⟨s1, m2, m3, m4, s5, A⟩ y = some ⟨s1, m2, m3, y.val, s5, A⟩ := by unfold rfS; simp [hcs.1, hcs.2]
    have HJ8 := Lib.hid (HS1.out _ hrf)
    go_upto_region 6 with fail
    refine wl <| gz1 (.pointer (some ⟨g9, 0, none⟩)) <| gzl rfl ⟨g9, 0, none⟩ (.int .i64 y.num) (hbx.load (i := 0) rfl (by kernel_rfl)) <| gzb (eql_n rfl (y.num) (1) dF) <|
     gz6 (.bool false) undef undef undef (.bool false) (.bool false) <| wn ?_
    simp only [pu]
    go_upto_region 8 with fail
    refine wl <| gz1 (.pointer (some ⟨g9, 0, none⟩)) <| gzl rfl ⟨g9, 0, none⟩ (.int .i64 y.num) (hbx.load (i := 0) rfl (by kernel_rfl)) <| gzb (eql_n rfl (y.num) (2) dF) <|
     gz6 (.bool false) undef undef undef (.bool false) (.bool false) <| wn ?_
    simp only [pu]
    go_upto_region 10 with fail
    refine wl <| gz1 (.pointer (some ⟨g9, 0, none⟩)) <| gzl rfl ⟨g9, 0, none⟩ (.int .i64 y.num) (hbx.load (i := 0) rfl (by kernel_rfl)) <| gzb (eql_n rfl (y.num) (3) dF) <|
     gz6 (.bool false) undef undef undef (.bool false) (.bool false) <| wn ?_
    simp only [pu]
    go_upto_region 12 with fail
    refine wl <| gz1 (.pointer (some ⟨g9, 0, none⟩)) <| gzl rfl ⟨g9, 0, none⟩ (.int .i64 y.num) (hbx.load (i := 0) rfl (by kernel_rfl)) <| gzb (eql_n rfl (y.num) (4) (decide_eq_true (hcs.1))) <|
     gz2 (.bool true) (.pointer (some ⟨g9, 1, none⟩)) <| gzl rfl ⟨g9, 1, none⟩ (.int .i64 y.kind) (hbx.load (i := 1) rfl (by kernel_rfl)) <| gzb (eql_n rfl (y.kind) (0) (decide_eq_true (hcs.2))) <| gz2 (.bool true) (.bool true) <| wn ?_
    simp only [pu]
    obtain ⟨V8, hst8, hX8, hb8, hbut8⟩ := st_cell (i := 3) (ty := 22) (v := .int .u64 y.val) (cs' := txA ⟨s1, m2, m3, y.val, s5, A⟩ a6 c6) hX4 HB6.out HG2.out.2.1 (by show 3 < 6; decide) rfl (by kernel_rfl) rfl
    have HX48 := Lib.hid hX8
    have HX28 := Lib.hid (hX2.but hbut8 HG2.out.2.2)
    have HR8 := Lib.hid (hRT.but hbut8 HGW.out.2)
    have HB8 := Lib.hid hb8
    have HW8 : Hid (W.heap.size ≤ V8.heap.size) := Lib.hid (Nat.le_trans HW6.out hbut8.1.size)
    have HA8 : Hid (A.length ≤ j + 1) := Lib.hid (Nat.le_succ_of_le HAL.out)
    go_upto_region 13 with fail
    refine wl <| gz1 (.pointer (some ⟨g9, 2, none⟩)) <| gzl rfl ⟨g9, 2, none⟩ (.int .u64 y.val) (hbx.load (i := 2) rfl (by kernel_rfl)) <| gz1 (.pointer (some ⟨g4, 3, none⟩)) <| gzs rfl (hst8) <| wn ?_
    simp only [pu]
    clear hst8 hX8 hb8 hbut8 hX2 hX4 hRT hbx hs6 HS1 HS2 hrf HAL HB6 HW6
    go_upto_region 21 with fail
    refine wl <| gzv (.int .i64 (j + 1 : Nat)) (add_one rfl j (by have := HG.out; omega) (by kernel_rfl) _) <| gz1 (.int .i64 (j + 1 : Nat)) <| wn ?_
    simp only [pu]
    go_wp2_with fail
    go_roundg (gk - 1)
    case measure => have := HG.out; omega
    case rel => exact ⟨j + 1, s1, m2, m3, y.val, s5, A, a6, c6, rfl, HG.out.2.2.1, HA8, HX28, HX48, HR8, HJ8, HB8, HW8, HG.out.1⟩
   ·skip
    have hrf : rfS ⟨s1, m2, m3, m4, s5, A⟩ y = some ⟨s1, m2, m3, m4, (strOfNums y.bytes), A⟩ := by unfold rfS; simp [hcs.1, hcs.2]
    have HJ8 := Lib.hid (HS1.out _ hrf)
    go_upto_region 6 with fail
    refine wl <| gz1 (.pointer (some ⟨g9, 0, none⟩)) <| gzl rfl ⟨g9, 0, none⟩ (.int .i64 y.num) (hbx.load (i := 0) rfl (by kernel_rfl)) <| gzb (eql_n rfl (y.num) (1) dF) <|
     gz6 (.bool false) undef undef undef (.bool false) (.bool false) <| wn ?_
    simp only [pu]
    go_upto_region 8 with fail
    refine wl <| gz1 (.pointer (some ⟨g9, 0, none⟩)) <| gzl rfl ⟨g9, 0, none⟩ (.int .i64 y.num) (hbx.load (i := 0) rfl (by kernel_rfl)) <| gzb (eql_n rfl (y.num) (2) dF) <|
     gz6 (.bool false) undef undef undef (.bool false) (.bool false) <| wn ?_
    simp only [pu]
    go_upto_region 10 with fail
    refine wl <| gz1 (.pointer (some ⟨g9, 0, none⟩)) <| gzl rfl ⟨g9, 0, none⟩ (.int .i64 y.num) (hbx.load (i := 0) rfl (by kernel_rfl)) <| gzb (eql_n rfl (y.num) (3) dF) <|
     gz6 (.bool false) undef undef undef (.bool false) (.bool false) <| wn ?_
    simp only [pu]
    go_upto_region 12 with fail
    refine wl <| gz1 (.pointer (some ⟨g9, 0, none⟩)) <| gzl rfl ⟨g9, 0, none⟩ (.int .i64 y.num) (hbx.load (i := 0) rfl (by kernel_rfl)) <| gzb (eql_n rfl (y.num) (4) dF) <|
     gz6 (.bool false) undef undef undef (.bool false) (.bool false) <| wn ?_
    simp only [pu]
    go_upto_region 14 with fail
    refine wl <| gz1 (.pointer (some ⟨g9, 0, none⟩)) <| gzl rfl ⟨g9, 0, none⟩ (.int .i64 y.num) (hbx.load (i := 0) rfl (by kernel_rfl)) <| gzb (eql_n rfl (y.num) (5) (decide_eq_true (hcs.1))) <|
     gz2 (.bool true) (.pointer (some ⟨g9, 1, none⟩)) <| gzl rfl ⟨g9, 1, none⟩ (.int .i64 y.kind) (hbx.load (i := 1) rfl (by kernel_rfl)) <| gzb (eql_n rfl (y.kind) (2) (decide_eq_true (hcs.2))) <| gz2 (.bool true) (.bool true) <| wn ?_
    simp only [pu]
    obtain ⟨V8, hst8, hX8, hb8, hbut8⟩ := st_cell (i := 4) (ty := 9) (v := .string (strOfNums y.bytes)) (cs' := txA ⟨s1, m2, m3, m4, (strOfNums y.bytes), A⟩ a6 c6) hX4 HB6.out HG2.out.2.1 (by show 4 < 6; decide) rfl (by kernel_rfl) rfl
    have HX48 := Lib.hid hX8
    have HX28 := Lib.hid (hX2.but hbut8 HG2.out.2.2)
    have HR8 := Lib.hid (hRT.but hbut8 HGW.out.2)
    have HB8 := Lib.hid hb8
    have HW8 : Hid (W.heap.size ≤ V8.heap.size) := Lib.hid (Nat.le_trans HW6.out hbut8.1.size)
    have HA8 : Hid (A.length ≤ j + 1) := Lib.hid (Nat.le_succ_of_le HAL.out)
    go_upto_region 15 with fail
    refine wl <| gz1 (.pointer (some ⟨g9, 3, none⟩)) <| gzl rfl ⟨g9, 3, none⟩ (.slice ba y.bytes.length bc) (hbx.load (i := 3) rfl (by kernel_rfl)) <| gzv (.string (strOfNums y.bytes)) (ex_str rfl hs6 (by kernel_rfl)) <| gz1 (.pointer (some ⟨g4, 4, none⟩)) <| gzs rfl (hst8) <|
     wpList_nil ?_
    simp only [pu]
    clear hst8 hX8 hb8 hbut8 hX2 hX4 hRT hbx hs6 HS1 HS2 hrf HAL HB6 HW6
    go_upto_region 21 with fail
    refine wl <| gzv (.int .i64 (j + 1 : Nat)) (add_one rfl j (by have := HG.out; omega) (by kernel_rfl) _) <| gz1 (.int .i64 (j + 1 : Nat)) <| wn ?_
    simp only [pu]
    go_wp2_with fail
    go_roundg (gk - 1)
    case measure => have := HG.out; omega
    case rel => exact ⟨j + 1, s1, m2, m3, m4, (strOfNums y.bytes), A, a6, c6, rfl, HG.out.2.2.1, HA8, HX28, HX48, HR8, HJ8, HB8, HW8, HG.out.1⟩
   ·skip
    have CR := ref_transfer ba bc y.bytes V6 hs6 hba hbl HVX.out.2.2.1
    have HRF : Hid (rfS ⟨s1, m2, m3, m4, s5, A⟩ y = (rfT y.bytes).map fun x => ⟨s1, m2, m3, m4, s5, A ++ [x]⟩) := Lib.hid (by unfold rfS; simp [hcs.1, hcs.2])
    generalize rfT y.bytes = rx at *
    go_upto_region 6 with fail
    refine wl <| gz1 (.pointer (some ⟨g9, 0, none⟩)) <| gzl rfl ⟨g9, 0, none⟩ (.int .i64 y.num) (hbx.load (i := 0) rfl (by kernel_rfl)) <| gzb (eql_n rfl (y.num) (1) dF) <|
     gz6 (.bool false) undef undef undef (.bool false) (.bool false) <| wn ?_
    simp only [pu]
    go_upto_region 8 with fail
    refine wl <| gz1 (.pointer (some ⟨g9, 0, none⟩)) <| gzl rfl ⟨g9, 0, none⟩ (.int .i64 y.num) (hbx.load (i := 0) rfl (by kernel_rfl)) <| gzb (eql_n rfl (y.num) (2) dF) <|
     gz6 (.bool false) undef undef undef (.bool false) (.bool false) <| wn ?_
    simp only [pu]
    go_upto_region 10 with fail
    refine wl <| gz1 (.pointer (some ⟨g9, 0, none⟩)) <| gzl rfl ⟨g9, 0, none⟩ (.int .i64 y.num) (hbx.load (i := 0) rfl (by kernel_rfl)) <| gzb (eql_n rfl (y.num) (3) dF) <|
     gz6 (.bool false) undef undef undef (.bool false) (.bool false) <| wn ?_
    simp only [pu]
    go_upto_region 12 with fail
    refine wl <| gz1 (.pointer (some ⟨g9, 0, none⟩)) <| gzl rfl ⟨g9, 0, none⟩ (.int .i64 y.num) (hbx.load (i := 0) rfl (by kernel_rfl)) <| gzb (eql_n rfl (y.num) (4) dF) <|
     gz6 (.bool false) undef undef undef (.bool false) (.bool false) <| wn ?_
    simp only [pu]
    go_upto_region 14 with fail
    refine wl <| gz1 (.pointer (some ⟨g9, 0, none⟩)) <| gzl rfl ⟨g9, 0, none⟩ (.int .i64 y.num) (hbx.load (i := 0) rfl (by kernel_rfl)) <| gzb (eql_n rfl (y.num) (5) dF) <|
     gz6 (.bool false) undef undef undef (.bool false) (.bool false) <| wn ?_
    simp only [pu]
    go_upto_region 16 with fail
    refine wl <| gz1 (.pointer (some ⟨g9, 0, none⟩)) <| gzl rfl ⟨g9, 0, none⟩ (.int .i64 y.num) (hbx.load (i := 0) rfl (by kernel_rfl)) <| gzb (eql_n rfl (y.num) (6) (decide_eq_true (hcs.1))) <|
     gz2 (.bool true) (.pointer (some ⟨g9, 1, none⟩)) <| gzl rfl ⟨g9, 1, none⟩ (.int .i64 y.kind) (hbx.load (i := 1) rfl (by kernel_rfl)) <| gzb (eql_n rfl (y.kind) (2) (decide_eq_true (hcs.2))) <| gz2 (.bool true) (.bool true) <| wn ?_
    simp only [pu]
    go_upto_region 17 with fail
    refine wl <| gz1 (.pointer (some ⟨g9, 3, none⟩)) <| gzl rfl ⟨g9, 3, none⟩ (.slice ba y.bytes.length bc) (hbx.load (i := 3) rfl (by kernel_rfl)) <|
     gze (fun v w' => ∃ x ok, v = .tuple #[.agg (tfA x), .bool ok] ∧ rx = (if ok = true then some x else none) ∧ Below V6.heap.size V6 w') (CR.mono fun e w' q => by obtain ⟨x, ok, h1, h2⟩ := q; exact ⟨_, h1, x, ok, rfl, h2⟩) (fun v7 V7 hq => ?_)
    obtain ⟨x, ok, rfl, hok, hb7⟩ := hq
    obtain ⟨V8, hst8, hb8, hbx8⟩ := new_tf V7 x
    simp only [pu]
    refine gz3 (.tuple #[.agg (tfA x), .bool ok]) (.agg (tfA x)) (.bool ok) ?_
    simp only [pu]
    refine run_to rfl (some 7) rfl (.pointer (some ⟨V7.heap.size, 0, none⟩)) (V7.alloc (.cells (tfA zTf) 35)) (by kernel_rfl) ?_
    simp only [pu]
    refine gzs rfl (hst8) <| gz1 (.bool ok) <| wn ?_
    simp only [pu]
    obtain ⟨g7, hg7⟩ : ∃ g7, V7.heap.size = g7 := ⟨_, rfl⟩
    have hb68 := hb7.trans (hb8.mono hb7.size)
    replace hX2 := hX2.below hX2.lt hb68
    replace hX4 := hX4.below hX4.lt hb68
    replace hRT := hRT.below hb68
    replace HB6 := Lib.hid (HB6.out.trans (hb68.mono HB6.out.size))
    replace HW6 : Hid (W.heap.size ≤ V8.heap.size) := Lib.hid (Nat.le_trans HW6.out hb68.size)
    rw [hg7] at hbx8 ⊢
    clear hst8 hg7 hb7 hb8 hb68 CR hbx hs6
    go_upto_region 18 with fail
    cases ok
    ·skip
     have HRN := Lib.hid (HS2.out (by rw [HRF.out, hok]; rfl))
     refine wl <| gz2 (.bool false) (.bool true) <| wn ?_
     simp only [pu]
     clear HS1 HS2 HRF hok
     obtain ⟨hstz, hZ⟩ := store_txz (y := ⟨s1, m2, m3, m4, s5, A⟩) (a' := a6) (c' := c6) hX2
     have HLD := Lib.hid (load_txb hX4)
     have HB9 := Lib.hid (belowRow HB6.out HG2.out.1 (txA ⟨s1, m2, m3, m4, s5, A⟩ a6 c6))
     have HRW := Lib.hid ((own_row (g := g2) hRT (txA ⟨s1, m2, m3, m4, s5, A⟩ a6 c6) HGW.out.1).base (B := w.heap.size) HWW.out)
     have HE := Lib.hid (HTO.out _ ⟨s1, m2, m3, m4, s5, A⟩ false a6 c6 HB9.out HRN.out HRW.out)
     generalize World.setRow _ g2 (txA ⟨s1, m2, m3, m4, s5, A⟩ a6 c6) = V9 at *
     clear HTO HRW HB9 hX2 hX4 hRT
     go_upto_region 19 with fail
     refine wl <| gzl rfl ⟨g4, 0, none⟩ (.agg (txA ⟨s1, m2, m3, m4, s5, A⟩ a6 c6)) (HLD.out) <| gzs rfl (hstz) <| gz1 (.bool false) <| wn ?_
     simp only [pu]
     go_wp2_with fail
     exact bodyPost_ret (results_c (p := 2) (q := 3) rfl (by kernel_rfl) (load_txb hZ) rfl) rfl HE.out
    ·skip
     refine wl <| gz2 (.bool true) (.bool false) <| wn ?_
     simp only [pu]
     have HJ8 := Lib.hid (HS1.out _ (by rw [HRF.out, hok]; rfl))
     obtain ⟨a7, c7, V9, hap, hr9, hb9⟩ := grow_tf hRT HW6.out x (by have := HAL.out; have := HG.out; omega)
     have hX9 : Bx V9 g4 (txA ⟨s1, m2, m3, m4, s5, A⟩ a6 c6) 32 := hX4.below HGW.out.2 hb9
     obtain ⟨V10, hst10, hX10, hb10, hbut10⟩ := st_cell (i := 5) (ty := 30) (v := .slice a7 (A ++ [x]).length c7) (cs' := txA ⟨s1, m2, m3, m4, s5, A ++ [x]⟩ a7 c7) hX9 (HB6.out.trans (hb9.mono HWW.out)) HG2.out.2.1 (by show 5 < 6; decide) rfl (by kernel_rfl) rfl
     have HX48 := Lib.hid hX10
     have HX28 := Lib.hid ((hX2.below HGW.out.1 hb9).but hbut10 HG2.out.2.2)
     have HR8 := Lib.hid (hr9.but hbut10 HGW.out.2)
     have HB8 := Lib.hid hb10
     have HW8 : Hid (W.heap.size ≤ V10.heap.size) := Lib.hid (Nat.le_trans (Nat.le_trans HW6.out hb9.size) hbut10.1.size)
     have HA8 : Hid ((A ++ [x]).length ≤ j + 1) := Lib.hid (by rw [List.length_append]; have := HAL.out; show A.length + 1 ≤ j + 1; omega)
     clear hr9 hb9 hX9 hX10 hbut10 hb10 HS1 HS2 HRF hok HAL HB6 HW6 hX2 hRT
     go_upto_region 20 with fail
     refine wl <| gz1 (.pointer (some ⟨g4, 5, none⟩)) <| gzl rfl ⟨g4, 5, none⟩ (.slice a6 A.length c6) (hX4.load (i := 5) rfl (by kernel_rfl)) <| gzl rfl ⟨g7, 0, none⟩ (.agg (tfA x)) (load_tfb hbx8) ?_
     simp only [pu]
     refine gw_build (by kernel_rfl) (some 99) rfl 30 1 #[(0, .tmp 98)] rfl #[(0, .agg (tfA x))] (by kernel_rfl) (.slice (some ⟨V8.heap.size, 0, none⟩) 1 1) _ (build_tf x V8) ?_
     simp only [pu]
     refine append_step rfl (some 100) rfl 30 rfl (.tmp 97) (.tmp 99) 30 rfl (.slice a6 A.length c6) (.slice (some ⟨V8.heap.size, 0, none⟩) 1 1) (.slice a7 (A ++ [x]).length c7) V9 (by kernel_rfl) (by kernel_rfl) hap ?_
     simp only [pu]
     refine gz1 (.pointer (some ⟨g4, 5, none⟩)) <| gzs rfl (hst10) <| wn ?_
     simp only [pu]
     clear hap hst10 hX4 hbx8
     go_upto_region 21 with fail
     refine wl <| gzv (.int .i64 (j + 1 : Nat)) (add_one rfl j (by have := HG.out; omega) (by kernel_rfl) _) <| gz1 (.int .i64 (j + 1 : Nat)) <| wn ?_
     simp only [pu]
     go_wp2_with fail
     go_roundg (gk - 1)
     case measure => have := HG.out; omega
     case rel => exact ⟨j + 1, s1, m2, m3, m4, s5, A ++ [x], a7, c7, rfl, HG.out.2.2.1, HA8, HX28, HX48, HR8, HJ8, HB8, HW8, HG.out.1⟩
   ·skip
    have HRN := Lib.hid (HS2.out (by unfold rfS; simp [hcs.1, hcs.2]))
    clear HS1 HS2 hba hbl hs6
    go_upto_region 6 with fail
    refine wl <| gz1 (.pointer (some ⟨g9, 0, none⟩)) <| gzl rfl ⟨g9, 0, none⟩ (.int .i64 y.num) (hbx.load (i := 0) rfl (by kernel_rfl)) <| gzb (eql_n rfl (y.num) (1) (decide_eq_true (hcs.1))) <|
     gz2 (.bool true) (.pointer (some ⟨g9, 1, none⟩)) <| gzl rfl ⟨g9, 1, none⟩ (.int .i64 y.kind) (hbx.load (i := 1) rfl (by kernel_rfl)) <| gzb (eql_n rfl (y.kind) (2) (decide_eq_false (hcs.2))) <| gz2 (.bool false) (.bool false) <| wn ?_
    simp only [pu]
    go_upto_region 8 with fail
    refine wl <| gz1 (.pointer (some ⟨g9, 0, none⟩)) <| gzl rfl ⟨g9, 0, none⟩ (.int .i64 y.num) (hbx.load (i := 0) rfl (by kernel_rfl)) <| gzb (eql_n rfl (y.num) (2) dF) <|
     gz6 (.bool false) undef undef undef (.bool false) (.bool false) <| wn ?_
    simp only [pu]
    go_upto_region 10 with fail
    refine wl <| gz1 (.pointer (some ⟨g9, 0, none⟩)) <| gzl rfl ⟨g9, 0, none⟩ (.int .i64 y.num) (hbx.load (i := 0) rfl (by kernel_rfl)) <| gzb (eql_n rfl (y.num) (3) dF) <|
     gz6 (.bool false) undef undef undef (.bool false) (.bool false) <| wn ?_
    simp only [pu]
    go_upto_region 12 with fail
    refine wl <| gz1 (.pointer (some ⟨g9, 0, none⟩)) <| gzl rfl ⟨g9, 0, none⟩ (.int .i64 y.num) (hbx.load (i := 0) rfl (by kernel_rfl)) <| gzb (eql_n rfl (y.num) (4) dF) <|
     gz6 (.bool false) undef undef undef (.bool false) (.bool false) <| wn ?_
    simp only [pu]
    go_upto_region 14 with fail
    refine wl <| gz1 (.pointer (some ⟨g9, 0, none⟩)) <| gzl rfl ⟨g9, 0, none⟩ (.int .i64 y.num) (hbx.load (i := 0) rfl (by kernel_rfl)) <| gzb (eql_n rfl (y.num) (5) dF) <|
     gz6 (.bool false) undef undef undef (.bool false) (.bool false) <| wn ?_
    simp only [pu]
    go_upto_region 16 with fail
    refine wl <| gz1 (.pointer (some ⟨g9, 0, none⟩)) <| gzl rfl ⟨g9, 0, none⟩ (.int .i64 y.num) (hbx.load (i := 0) rfl (by kernel_rfl)) <| gzb (eql_n rfl (y.num) (6) dF) <|
     gz6 (.bool false) undef undef undef (.bool false) (.bool false) <| wn ?_
    simp only [pu]
    obtain ⟨hstz, hZ⟩ := store_txz (y := ⟨s1, m2, m3, m4, s5, A⟩) (a' := a6) (c' := c6) hX2
    have HLD := Lib.hid (load_txb hX4)
    have HB9 := Lib.hid (belowRow HB6.out HG2.out.1 (txA ⟨s1, m2, m3, m4, s5, A⟩ a6 c6))
    have HRW := Lib.hid ((own_row (g := g2) hRT (txA ⟨s1, m2, m3, m4, s5, A⟩ a6 c6) HGW.out.1).base (B := w.heap.size) HWW.out)
    have HE := Lib.hid (HTO.out _ ⟨s1, m2, m3, m4, s5, A⟩ false a6 c6 HB9.out HRN.out HRW.out)
    generalize World.setRow _ g2 (txA ⟨s1, m2, m3, m4, s5, A⟩ a6 c6) = V9 at *
    clear HTO HRW HB9 hX2 hX4 hRT
    go_upto_region 5 with fail
    refine wl <| gzl rfl ⟨g4, 0, none⟩ (.agg (txA ⟨s1, m2, m3, m4, s5, A⟩ a6 c6)) (HLD.out) <| gzs rfl (hstz) <| gz1 (.bool false) <| wn ?_
    simp only [pu]
    go_wp2_with fail
    exact bodyPost_ret (results_c (p := 2) (q := 3) rfl (by kernel_rfl) (load_txb hZ) rfl) rfl HE.out
   ·skip
    have HRN := Lib.hid (HS2.out (by unfold rfS; simp [hcs.1, hcs.2]))
    clear HS1 HS2 hba hbl hs6
    go_upto_region 6 with fail
    refine wl <| gz1 (.pointer (some ⟨g9, 0, none⟩)) <| gzl rfl ⟨g9, 0, none⟩ (.int .i64 y.num) (hbx.load (i := 0) rfl (by kernel_rfl)) <| gzb (eql_n rfl (y.num) (1) dF) <|
     gz6 (.bool false) undef undef undef (.bool false) (.bool false) <| wn ?_
    simp only [pu]
    go_upto_region 8 with fail
    refine wl <| gz1 (.pointer (some ⟨g9, 0, none⟩)) <| gzl rfl ⟨g9, 0, none⟩ (.int .i64 y.num) (hbx.load (i := 0) rfl (by kernel_rfl)) <| gzb (eql_n rfl (y.num) (2) (decide_eq_true (hcs.1))) <|
     gz2 (.bool true) (.pointer (some ⟨g9, 1, none⟩)) <| gzl rfl ⟨g9, 1, none⟩ (.int .i64 y.kind) (hbx.load (i := 1) rfl (by kernel_rfl)) <| gzb (eql_n rfl (y.kind) (0) (decide_eq_false (hcs.2))) <| gz2 (.bool false) (.bool false) <| wn ?_
    simp only [pu]
    go_upto_region 10 with fail
    refine wl <| gz1 (.pointer (some ⟨g9, 0, none⟩)) <| gzl rfl ⟨g9, 0, none⟩ (.int .i64 y.num) (hbx.load (i := 0) rfl (by kernel_rfl)) <| gzb (eql_n rfl (y.num) (3) dF) <|
     gz6 (.bool false) undef undef undef (.bool false) (.bool false) <| wn ?_
    simp only [pu]
    go_upto_region 12 with fail
    refine wl <| gz1 (.pointer (some ⟨g9, 0, none⟩)) <| gzl rfl ⟨g9, 0, none⟩ (.int .i64 y.num) (hbx.load (i := 0) rfl (by kernel_rfl)) <| gzb (eql_n rfl (y.num) (4) dF) <|
     gz6 (.bool false) undef undef undef (.bool false) (.bool false) <| wn ?_
    simp only [pu]
    go_upto_region 14 with fail
    refine wl <| gz1 (.pointer (some ⟨g9, 0, none⟩)) <| gzl rfl ⟨g9, 0, none⟩ (.int .i64 y.num) (hbx.load (i := 0) rfl (by kernel_rfl)) <| gzb (eql_n rfl (y.num) (5) dF) <|
     gz6 (.bool false) undef undef undef (.bool false) (.bool false) <| wn ?_
    simp only [pu]
    go_upto_region 16 with fail
    refine wl <| gz1 (.pointer (some ⟨g9, 0, none⟩)) <| gzl rfl ⟨g9, 0, none⟩ (.int .i64 y.num) (hbx.load (i := 0) rfl (by kernel_rfl)) <| gzb (eql_n rfl (y.num) (6) dF) <|
     gz6 (.bool false) undef undef undef (.bool false) (.bool false) <| wn ?_
    simp only [pu]
    obtain ⟨hstz, hZ⟩ := store_txz (y := ⟨s1, m2, m3, m4, s5, A⟩) (a' := a6) (c' := c6) hX2
    have HLD := Lib.hid (load_txb hX4)
    have HB9 := Lib.hid (belowRow HB6.out HG2.out.1 (txA ⟨s1, m2, m3, m4, s5, A⟩ a6 c6))
    have HRW := Lib.hid ((own_row (g := g2) hRT (txA ⟨s1, m2, m3, m4, s5, A⟩ a6 c6) HGW.out.1).base (B := w.heap.size) HWW.out)
    have HE := Lib.hid (HTO.out _ ⟨s1, m2, m3, m4, s5, A⟩ false a6 c6 HB9.out HRN.out HRW.out)
    generalize World.setRow _ g2 (txA ⟨s1, m2, m3, m4, s5, A⟩ a6 c6) = V9 at *
    clear HTO HRW HB9 hX2 hX4 hRT
    go_upto_region 5 with fail
    refine wl <| gzl rfl ⟨g4, 0, none⟩ (.agg (txA ⟨s1, m2, m3, m4, s5, A⟩ a6 c6)) (HLD.out) <| gzs rfl (hstz) <| gz1 (.bool false) <| wn ?_
    simp only [pu]
    go_wp2_with fail
    exact bodyPost_ret (results_c (p := 2) (q := 3) rfl (by kernel_rfl) (load_txb hZ) rfl) rfl HE.out
   ·skip
    have HRN := Lib.hid (HS2.out (by unfold rfS; simp [hcs.1, hcs.2]))
    clear HS1 HS2 hba hbl hs6
    go_upto_region 6 with fail
    refine wl <| gz1 (.pointer (some ⟨g9, 0, none⟩)) <| gzl rfl ⟨g9, 0, none⟩ (.int .i64 y.num) (hbx.load (i := 0) rfl (by kernel_rfl)) <| gzb (eql_n rfl (y.num) (1) dF) <|
     gz6 (.bool false) undef undef undef (.bool false) (.bool false) <| wn ?_
    simp only [pu]
    go_upto_region 8 with fail
    refine wl <| gz1 (.pointer (some ⟨g9, 0, none⟩)) <| gzl rfl ⟨g9, 0, none⟩ (.int .i64 y.num) (hbx.load (i := 0) rfl (by kernel_rfl)) <| gzb (eql_n rfl (y.num) (2) dF) <|
     gz6 (.bool false) undef undef undef (.bool false) (.bool false) <| wn ?_
    simp only [pu]
    go_upto_region 10 with fail
    refine wl <| gz1 (.pointer (some ⟨g9, 0, none⟩)) <| gzl rfl ⟨g9, 0, none⟩ (.int .i64 y.num) (hbx.load (i := 0) rfl (by kernel_rfl)) <| gzb (eql_n rfl (y.num) (3) (decide_eq_true (hcs.1))) <|
     gz2 (.bool true) (.pointer (some ⟨g9, 1, none⟩)) <| gzl rfl ⟨g9, 1, none⟩ (.int .i64 y.kind) (hbx.load (i := 1) rfl (by kernel_rfl)) <| gzb (eql_n rfl (y.kind) (0) (decide_eq_false (hcs.2))) <| gz2 (.bool false) (.bool false) <| wn ?_
    simp only [pu]
    go_upto_region 12 with fail
    refine wl <| gz1 (.pointer (some ⟨g9, 0, none⟩)) <| gzl rfl ⟨g9, 0, none⟩ (.int .i64 y.num) (hbx.load (i := 0) rfl (by kernel_rfl)) <| gzb (eql_n rfl (y.num) (4) dF) <|
     gz6 (.bool false) undef undef undef (.bool false) (.bool false) <| wn ?_
    simp only [pu]
    go_upto_region 14 with fail
    refine wl <| gz1 (.pointer (some ⟨g9, 0, none⟩)) <| gzl rfl ⟨g9, 0, none⟩ (.int .i64 y.num) (hbx.load (i := 0) rfl (by kernel_rfl)) <| gzb (eql_n rfl (y.num) (5) dF) <|
     gz6 (.bool false) undef undef undef (.bool false) (.bool false) <| wn ?_
    simp only [pu]
    go_upto_region 16 with fail
    refine wl <| gz1 (.pointer (some ⟨g9, 0, none⟩)) <| gzl rfl ⟨g9, 0, none⟩ (.int .i64 y.num) (hbx.load (i := 0) rfl (by kernel_rfl)) <| gzb (eql_n rfl (y.num) (6) dF) <|
     gz6 (.bool false) undef undef undef (.bool false) (.bool false) <| wn ?_
    simp only [pu]
    obtain ⟨hstz, hZ⟩ := store_txz (y := ⟨s1, m2, m3, m4, s5, A⟩) (a' := a6) (c' := c6) hX2
    have HLD := Lib.hid (load_txb hX4)
    have HB9 := Lib.hid (belowRow HB6.out HG2.out.1 (txA ⟨s1, m2, m3, m4, s5, A⟩ a6 c6))
    have HRW := Lib.hid ((own_row (g := g2) hRT (txA ⟨s1, m2, m3, m4, s5, A⟩ a6 c6) HGW.out.1).base (B := w.heap.size) HWW.out)
    have HE := Lib.hid (HTO.out _ ⟨s1, m2, m3, m4, s5, A⟩ false a6 c6 HB9.out HRN.out HRW.out)
    generalize World.setRow _ g2 (txA ⟨s1, m2, m3, m4, s5, A⟩ a6 c6) = V9 at *
    clear HTO HRW HB9 hX2 hX4 hRT
    go_upto_region 5 with fail
    refine wl <| gzl rfl ⟨g4, 0, none⟩ (.agg (txA ⟨s1, m2, m3, m4, s5, A⟩ a6 c6)) (HLD.out) <| gzs rfl (hstz) <| gz1 (.bool false) <| wn ?_
    simp only [pu]
    go_wp2_with fail
    exact bodyPost_ret (results_c (p := 2) (q := 3) rfl (by kernel_rfl) (load_txb hZ) rfl) rfl HE.out
   ·skip
    have HRN := Lib.hid (HS2.out (by unfold rfS; simp [hcs.1, hcs.2]))
    clear HS1 HS2 hba hbl hs6
    go_upto_region 6 with fail
    refine wl <| gz1 (.pointer (some ⟨g9, 0, none⟩)) <| gzl rfl ⟨g9, 0, none⟩ (.int .i64 y.num) (hbx.load (i := 0) rfl (by kernel_rfl)) <| gzb (eql_n rfl (y.num) (1) dF) <|
     gz6 (.bool false) undef undef undef (.bool false) (.bool false) <| wn ?_
    simp only [pu]
    go_upto_region 8 with fail
    refine wl <| gz1 (.pointer (some ⟨g9, 0, none⟩)) <| gzl rfl ⟨g9, 0, none⟩ (.int .i64 y.num) (hbx.load (i := 0) rfl (by kernel_rfl)) <| gzb (eql_n rfl (y.num) (2) dF) <|
     gz6 (.bool false) undef undef undef (.bool false) (.bool false) <| wn ?_
    simp only [pu]
    go_upto_region 10 with fail
    refine wl <| gz1 (.pointer (some ⟨g9, 0, none⟩)) <| gzl rfl ⟨g9, 0, none⟩ (.int .i64 y.num) (hbx.load (i := 0) rfl (by kernel_rfl)) <| gzb (eql_n rfl (y.num) (3) dF) <|
     gz6 (.bool false) undef undef undef (.bool false) (.bool false) <| wn ?_
    simp only [pu]
    go_upto_region 12 with fail
    refine wl <| gz1 (.pointer (some ⟨g9, 0, none⟩)) <| gzl rfl ⟨g9, 0, none⟩ (.int .i64 y.num) (hbx.load (i := 0) rfl (by kernel_rfl)) <| gzb (eql_n rfl (y.num) (4) (decide_eq_true (hcs.1))) <|
     gz2 (.bool true) (.pointer (some ⟨g9, 1, none⟩)) <| gzl rfl ⟨g9, 1, none⟩ (.int .i64 y.kind) (hbx.load (i := 1) rfl (by kernel_rfl)) <| gzb (eql_n rfl (y.kind) (0) (decide_eq_false (hcs.2))) <| gz2 (.bool false) (.bool false) <| wn ?_
    simp only [pu]
    go_upto_region 14 with fail
    refine wl <| gz1 (.pointer (some ⟨g9, 0, none⟩)) <| gzl rfl ⟨g9, 0, none⟩ (.int .i64 y.num) (hbx.load (i := 0) rfl (by kernel_rfl)) <| gzb (eql_n rfl (y.num) (5) dF) <|
     gz6 (.bool false) undef undef undef (.bool false) (.bool false) <| wn ?_
    simp only [pu]
    go_upto_region 16 with fail
    refine wl <| gz1 (.pointer (some ⟨g9, 0, none⟩)) <| gzl rfl ⟨g9, 0, none⟩ (.int .i64 y.num) (hbx.load (i := 0) rfl (by kernel_rfl)) <| gzb (eql_n rfl (y.num) (6) dF) <|
     gz6 (.bool false) undef undef undef (.bool false) (.bool false) <| wn ?_
    simp only [pu]
    obtain ⟨hstz, hZ⟩ := store_txz (y := ⟨s1, m2, m3, m4, s5, A⟩) (a' := a6) (c' := c6) hX2
    have HLD := Lib.hid (load_txb hX4)
    have HB9 := Lib.hid (belowRow HB6.out HG2.out.1 (txA ⟨s1, m2, m3, m4, s5, A⟩ a6 c6))
    have HRW := Lib.hid ((own_row (g := g2) hRT (txA ⟨s1, m2, m3, m4, s5, A⟩ a6 c6) HGW.out.1).base (B := w.heap.size) HWW.out)
    have HE := Lib.hid (HTO.out _ ⟨s1, m2, m3, m4, s5, A⟩ false a6 c6 HB9.out HRN.out HRW.out)
    generalize World.setRow _ g2 (txA ⟨s1, m2, m3, m4, s5, A⟩ a6 c6) = V9 at *
    clear HTO HRW HB9 hX2 hX4 hRT
    go_upto_region 5 with fail
    refine wl <| gzl rfl ⟨g4, 0, none⟩ (.agg (txA ⟨s1, m2, m3, m4, s5, A⟩ a6 c6)) (HLD.out) <| gzs rfl (hstz) <| gz1 (.bool false) <| wn ?_
    simp only [pu]
    go_wp2_with fail
    exact bodyPost_ret (results_c (p := 2) (q := 3) rfl (by kernel_rfl) (load_txb hZ) rfl) rfl HE.out
   ·skip
    have HRN := Lib.hid (HS2.out (by unfold rfS; simp [hcs.1, hcs.2]))
    clear HS1 HS2 hba hbl hs6
    go_upto_region 6 with fail
    refine wl <| gz1 (.pointer (some ⟨g9, 0, none⟩)) <| gzl rfl ⟨g9, 0, none⟩ (.int .i64 y.num) (hbx.load (i := 0) rfl (by kernel_rfl)) <| gzb (eql_n rfl (y.num) (1) dF) <|
     gz6 (.bool false) undef undef undef (.bool false) (.bool false) <| wn ?_
    simp only [pu]
    go_upto_region 8 with fail
    refine wl <| gz1 (.pointer (some ⟨g9, 0, none⟩)) <| gzl rfl ⟨g9, 0, none⟩ (.int .i64 y.num) (hbx.load (i := 0) rfl (by kernel_rfl)) <| gzb (eql_n rfl (y.num) (2) dF) <|
     gz6 (.bool false) undef undef undef (.bool false) (.bool false) <| wn ?_
    simp only [pu]
    go_upto_region 10 with fail
    refine wl <| gz1 (.pointer (some ⟨g9, 0, none⟩)) <| gzl rfl ⟨g9, 0, none⟩ (.int .i64 y.num) (hbx.load (i := 0) rfl (by kernel_rfl)) <| gzb (eql_n rfl (y.num) (3) dF) <|
     gz6 (.bool false) undef undef undef (.bool false) (.bool false) <| wn ?_
    simp only [pu]
    go_upto_region 12 with fail
    refine wl <| gz1 (.pointer (some ⟨g9, 0, none⟩)) <| gzl rfl ⟨g9, 0, none⟩ (.int .i64 y.num) (hbx.load (i := 0) rfl (by kernel_rfl)) <| gzb (eql_n rfl (y.num) (4) dF) <|
     gz6 (.bool false) undef undef undef (.bool false) (.bool false) <| wn ?_
    simp only [pu]
    go_upto_region 14 with fail
    refine wl <| gz1 (.pointer (some ⟨g9, 0, none⟩)) <| gzl rfl ⟨g9, 0, none⟩ (.int .i64 y.num) (hbx.load (i := 0) rfl (by kernel_rfl)) <| gzb (eql_n rfl (y.num) (5) (decide_eq_true (hcs.1))) <|
     gz2 (.bool true) (.pointer (some ⟨g9, 1, none⟩)) <| gzl rfl ⟨g9, 1, none⟩ (.int .i64 y.kind) (hbx.load (i := 1) rfl (by kernel_rfl)) <| gzb (eql_n rfl (y.kind) (2) (decide_eq_false (hcs.2))) <| gz2 (.bool false) (.bool false) <| wn ?_
    simp only [pu]
    go_upto_region 16 with fail
    refine wl <| gz1 (.pointer (some ⟨g9, 0, none⟩)) <| gzl rfl ⟨g9, 0, none⟩ (.int .i64 y.num) (hbx.load (i := 0) rfl (by kernel_rfl)) <| gzb (eql_n rfl (y.num) (6) dF) <|
     gz6 (.bool false) undef undef undef (.bool false) (.bool false) <| wn ?_
    simp only [pu]
    obtain ⟨hstz, hZ⟩ := store_txz (y := ⟨s1, m2, m3, m4, s5, A⟩) (a' := a6) (c' := c6) hX2
    have HLD := Lib.hid (load_txb hX4)
    have HB9 := Lib.hid (belowRow HB6.out HG2.out.1 (txA ⟨s1, m2, m3, m4, s5, A⟩ a6 c6))
    have HRW := Lib.hid ((own_row (g := g2) hRT (txA ⟨s1, m2, m3, m4, s5, A⟩ a6 c6) HGW.out.1).base (B := w.heap.size) HWW.out)
    have HE := Lib.hid (HTO.out _ ⟨s1, m2, m3, m4, s5, A⟩ false a6 c6 HB9.out HRN.out HRW.out)
    generalize World.setRow _ g2 (txA ⟨s1, m2, m3, m4, s5, A⟩ a6 c6) = V9 at *
    clear HTO HRW HB9 hX2 hX4 hRT
    go_upto_region 5 with fail
    refine wl <| gzl rfl ⟨g4, 0, none⟩ (.agg (txA ⟨s1, m2, m3, m4, s5, A⟩ a6 c6)) (HLD.out) <| gzs rfl (hstz) <| gz1 (.bool false) <| wn ?_
    simp only [pu]
    go_wp2_with fail
    exact bodyPost_ret (results_c (p := 2) (q := 3) rfl (by kernel_rfl) (load_txb hZ) rfl) rfl HE.out
   ·skip
    have HRN := Lib.hid (HS2.out (by unfold rfS; simp [hcs.1, hcs.2]))
    clear HS1 HS2 hba hbl hs6
    go_upto_region 6 with fail
    refine wl <| gz1 (.pointer (some ⟨g9, 0, none⟩)) <| gzl rfl ⟨g9, 0, none⟩ (.int .i64 y.num) (hbx.load (i := 0) rfl (by kernel_rfl)) <| gzb (eql_n rfl (y.num) (1) dF) <|
     gz6 (.bool false) undef undef undef (.bool false) (.bool false) <| wn ?_
    simp only [pu]
    go_upto_region 8 with fail
    refine wl <| gz1 (.pointer (some ⟨g9, 0, none⟩)) <| gzl rfl ⟨g9, 0, none⟩ (.int .i64 y.num) (hbx.load (i := 0) rfl (by kernel_rfl)) <| gzb (eql_n rfl (y.num) (2) dF) <|
     gz6 (.bool false) undef undef undef (.bool false) (.bool false) <| wn ?_
    simp only [pu]
    go_upto_region 10 with fail
    refine wl <| gz1 (.pointer (some ⟨g9, 0, none⟩)) <| gzl rfl ⟨g9, 0, none⟩ (.int .i64 y.num) (hbx.load (i := 0) rfl (by kernel_rfl)) <| gzb (eql_n rfl (y.num) (3) dF) <|
     gz6 (.bool false) undef undef undef (.bool false) (.bool false) <| wn ?_
    simp only [pu]
    go_upto_region 12 with fail
    refine wl <| gz1 (.pointer (some ⟨g9, 0, none⟩)) <| gzl rfl ⟨g9, 0, none⟩ (.int .i64 y.num) (hbx.load (i := 0) rfl (by kernel_rfl)) <| gzb (eql_n rfl (y.num) (4) dF) <|
     gz6 (.bool false) undef undef undef (.bool false) (.bool false) <| wn ?_
    simp only [pu]
    go_upto_region 14 with fail
    refine wl <| gz1 (.pointer (some ⟨g9, 0, none⟩)) <| gzl rfl ⟨g9, 0, none⟩ (.int .i64 y.num) (hbx.load (i := 0) rfl (by kernel_rfl)) <| gzb (eql_n rfl (y.num) (5) dF) <|
     gz6 (.bool false) undef undef undef (.bool false) (.bool false) <| wn ?_
    simp only [pu]
    go_upto_region 16 with fail
    refine wl <| gz1 (.pointer (some ⟨g9, 0, none⟩)) <| gzl rfl ⟨g9, 0, none⟩ (.int .i64 y.num) (hbx.load (i := 0) rfl (by kernel_rfl)) <| gzb (eql_n rfl (y.num) (6) (decide_eq_true (hcs.1))) <|
     gz2 (.bool true) (.pointer (some ⟨g9, 1, none⟩)) <| gzl rfl ⟨g9, 1, none⟩ (.int .i64 y.kind) (hbx.load (i := 1) rfl (by kernel_rfl)) <| gzb (eql_n rfl (y.kind) (2) (decide_eq_false (hcs.2))) <| gz2 (.bool false) (.bool false) <| wn ?_
    simp only [pu]
    obtain ⟨hstz, hZ⟩ := store_txz (y := ⟨s1, m2, m3, m4, s5, A⟩) (a' := a6) (c' := c6) hX2
    have HLD := Lib.hid (load_txb hX4)
    have HB9 := Lib.hid (belowRow HB6.out HG2.out.1 (txA ⟨s1, m2, m3, m4, s5, A⟩ a6 c6))
    have HRW := Lib.hid ((own_row (g := g2) hRT (txA ⟨s1, m2, m3, m4, s5, A⟩ a6 c6) HGW.out.1).base (B := w.heap.size) HWW.out)
    have HE := Lib.hid (HTO.out _ ⟨s1, m2, m3, m4, s5, A⟩ false a6 c6 HB9.out HRN.out HRW.out)
    generalize World.setRow _ g2 (txA ⟨s1, m2, m3, m4, s5, A⟩ a6 c6) = V9 at *
    clear HTO HRW HB9 hX2 hX4 hRT
    go_upto_region 5 with fail
    refine wl <| gzl rfl ⟨g4, 0, none⟩ (.agg (txA ⟨s1, m2, m3, m4, s5, A⟩ a6 c6)) (HLD.out) <| gzs rfl (hstz) <| gz1 (.bool false) <| wn ?_
    simp only [pu]
    go_wp2_with fail
    exact bodyPost_ret (results_c (p := 2) (q := 3) rfl (by kernel_rfl) (load_txb hZ) rfl) rfl HE.out
   ·skip
    have HRN := Lib.hid (HS2.out (by unfold rfS; rw [if_neg (by omega), if_neg (by omega), if_neg (by omega), if_neg (by omega), if_neg (by omega), if_neg (by omega)]))
    clear HS1 HS2 hba hbl hs6
    go_upto_region 6 with fail
    refine wl <| gz1 (.pointer (some ⟨g9, 0, none⟩)) <| gzl rfl ⟨g9, 0, none⟩ (.int .i64 y.num) (hbx.load (i := 0) rfl (by kernel_rfl)) <| gzb (eql_n rfl (y.num) (1) dF) <|
     gz6 (.bool false) undef undef undef (.bool false) (.bool false) <| wn ?_
    simp only [pu]
    go_upto_region 8 with fail
    refine wl <| gz1 (.pointer (some ⟨g9, 0, none⟩)) <| gzl rfl ⟨g9, 0, none⟩ (.int .i64 y.num) (hbx.load (i := 0) rfl (by kernel_rfl)) <| gzb (eql_n rfl (y.num) (2) dF) <|
     gz6 (.bool false) undef undef undef (.bool false) (.bool false) <| wn ?_
    simp only [pu]
    go_upto_region 10 with fail
    refine wl <| gz1 (.pointer (some ⟨g9, 0, none⟩)) <| gzl rfl ⟨g9, 0, none⟩ (.int .i64 y.num) (hbx.load (i := 0) rfl (by kernel_rfl)) <| gzb (eql_n rfl (y.num) (3) dF) <|
     gz6 (.bool false) undef undef undef (.bool false) (.bool false) <| wn ?_
    simp only [pu]
    go_upto_region 12 with fail
    refine wl <| gz1 (.pointer (some ⟨g9, 0, none⟩)) <| gzl rfl ⟨g9, 0, none⟩ (.int .i64 y.num) (hbx.load (i := 0) rfl (by kernel_rfl)) <| gzb (eql_n rfl (y.num) (4) dF) <|
     gz6 (.bool false) undef undef undef (.bool false) (.bool false) <| wn ?_
    simp only [pu]
    go_upto_region 14 with fail
    refine wl <| gz1 (.pointer (some ⟨g9, 0, none⟩)) <| gzl rfl ⟨g9, 0, none⟩ (.int .i64 y.num) (hbx.load (i := 0) rfl (by kernel_rfl)) <| gzb (eql_n rfl (y.num) (5) dF) <|
     gz6 (.bool false) undef undef undef (.bool false) (.bool false) <| wn ?_
    simp only [pu]
    go_upto_region 16 with fail
    refine wl <| gz1 (.pointer (some ⟨g9, 0, none⟩)) <| gzl rfl ⟨g9, 0, none⟩ (.int .i64 y.num) (hbx.load (i := 0) rfl (by kernel_rfl)) <| gzb (eql_n rfl (y.num) (6) dF) <|
     gz6 (.bool false) undef undef undef (.bool false) (.bool false) <| wn ?_
    simp only [pu]
    obtain ⟨hstz, hZ⟩ := store_txz (y := ⟨s1, m2, m3, m4, s5, A⟩) (a' := a6) (c' := c6) hX2
    have HLD := Lib.hid (load_txb hX4)
    have HB9 := Lib.hid (belowRow HB6.out HG2.out.1 (txA ⟨s1, m2, m3, m4, s5, A⟩ a6 c6))
    have HRW := Lib.hid ((own_row (g := g2) hRT (txA ⟨s1, m2, m3, m4, s5, A⟩ a6 c6) HGW.out.1).base (B := w.heap.size) HWW.out)
    have HE := Lib.hid (HTO.out _ ⟨s1, m2, m3, m4, s5, A⟩ false a6 c6 HB9.out HRN.out HRW.out)
    generalize World.setRow _ g2 (txA ⟨s1, m2, m3, m4, s5, A⟩ a6 c6) = V9 at *
    clear HTO HRW HB9 hX2 hX4 hRT
    go_upto_region 5 with fail
    refine wl <| gzl rfl ⟨g4, 0, none⟩ (.agg (txA ⟨s1, m2, m3, m4, s5, A⟩ a6 c6)) (HLD.out) <| gzs rfl (hstz) <| gz1 (.bool false) <| wn ?_
    simp only [pu]
    go_wp2_with fail
    exact bodyPost_ret (results_c (p := 2) (q := 3) rfl (by kernel_rfl) (load_txb hZ) rfl) rfl HE.out
  ·skip
   have HRS := Lib.hid (HDN.out j _ HJ.out (by rw [List.length_map, HN.out]; omega))
   have hX2 := HB2.out
   have hX4 := HB4.out
   have hRT := HRT.out
   have HB6 := HBB
   clear HJ HB2 HB4 HRT hg
   go_upto_region 3 with fail
   refine wl <| gzb (lss_n rfl (j) (n) dF) <| wn ?_
   simp only [pu]
   obtain ⟨hstz, hZ⟩ := store_txz (y := ⟨s1, m2, m3, m4, s5, A⟩) (a' := a6) (c' := c6) hX2
   have HLD := Lib.hid (load_txb hX4)
   have HB9 := Lib.hid (belowRow HB6.out HG2.out.1 (txA ⟨s1, m2, m3, m4, s5, A⟩ a6 c6))
   have HRW := Lib.hid ((own_row (g := g2) hRT (txA ⟨s1, m2, m3, m4, s5, A⟩ a6 c6) HGW.out.1).base (B := w.heap.size) HWW.out)
   have HE := Lib.hid (HTO.out _ ⟨s1, m2, m3, m4, s5, A⟩ true a6 c6 HB9.out HRS.out HRW.out)
   generalize World.setRow _ g2 (txA ⟨s1, m2, m3, m4, s5, A⟩ a6 c6) = V9 at *
   clear HTO HRW HB9 hX2 hX4 hRT
   go_upto_region 22 with fail
   refine wl <| gzl rfl ⟨g4, 0, none⟩ (.agg (txA ⟨s1, m2, m3, m4, s5, A⟩ a6 c6)) (HLD.out) <| gzs rfl (hstz) <| gz1 (.bool true) <| wn ?_
   simp only [pu]
   go_wp2_with fail
   exact bodyPost_ret (results_c (p := 2) (q := 3) rfl (by kernel_rfl) (load_txb hZ) rfl) rfl HE.out
end Go.Proofs.Ytglglhcnofbagaa
