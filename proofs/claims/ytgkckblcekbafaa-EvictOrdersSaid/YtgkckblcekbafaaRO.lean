/-
 The reference's Order: contract.
-/
import Derived.Test.YtgkckblcekbafaaVO
namespace Go.Proofs.Ytgkckblcekbafaa
attribute [local irreducible] wpList wpQuiet
open Go.RowKit
set_option maxRecDepth 100000
set_option linter.unusedSimpArgs false
set_option linter.unusedVariables false

theorem ens_of {V : World} {g : Nat} {x : En × Ad} (h : Bx V g (enA x.1 x.2) 50) : Cs V (some ⟨g, 0, none⟩) (ens [x]) := by
 have := Cs.block (cs := enp x) h
 unfold ens
 simpa using this
theorem Rowee.below {w w' : World} {B : Nat} {v : Value} {L : List (En × Ad)} (h : Rowee w B v L) (hb : Below w.heap.size w w') : Rowee w' B v L := own_below h hb
structure OD (b1 b3 b4 b8 b10 b11 : Bool) : Prop where
 a : b3 = true → b1 = true
 b : b4 = true → b3 = true
 c : b10 = true → b8 = true
 d : b11 = true → b10 = true
theorem OD.z : OD false false false false false false := ⟨fun h => h, fun h => h, fun h => h, fun h => h⟩
theorem takeX (X : List (En × Ad)) (i : Nat) (hi : i < X.length) : X.take (i + 1) = X.take i ++ [X.getD i zEA] := by
 rw [List.getD_eq_getElem?_getD, List.getElem?_eq_getElem hi]
 exact (take_snoc X i hi).symm
theorem ordX_step (X : List (En × Ad)) (i : Nat) (hi : i < X.length) : ordX (X.take (i + 1)) = insX (ordX (X.take i)) (X.getD i zEA) := by
 rw [takeX X i hi]
 unfold ordX
 rw [List.foldl_append]
 rfl
set_option maxRecDepth 100000 in
set_option maxHeartbeats 8000000 in
theorem r_order {w : World} {a : Option Addr} {c : Nat} {X : List (En × Ad)} (h : Xr w a X) (hl : X.length ≤ 1000) : Calls Try.prog 14 #[.slice a X.length c] w fun e w' => ∃ v, e = .returned v ∧ XrO w (ordX X) v w' := by
 have HRNG : Hid (∀ V, Below w.heap.size w V → ∀ i, i < X.length → ∃ b off, a = some ⟨b, off, none⟩ ∧ V.rangeAt b (off + i * 41) (enp (X.getD i zEA))) := Lib.hid fun V hV i hi => by
  obtain ⟨b, off, h1, -, h2⟩ := (h.below hV).rg hi
  exact ⟨b, off, h1, h2⟩
 have HNEW : Hid (∀ V v, Below w.heap.size w V → Rowee V w.heap.size v (ordX X) → ∃ u, Ending.returned v = .returned u ∧ XrO w (ordX X) u V) := Lib.hid fun V v hV hv => ⟨v, rfl, XrO.new hv (fun x hx => sub_en h.en x ((ord_perm X).mem_iff.1 hx)) hV⟩
 have HXT : Hid (∀ i, i < X.length → ordX (X.take (i + 1)) = insX (ordX (X.take i)) (X.getD i zEA)) := Lib.hid fun i hi => ordX_step X i hi
 obtain ⟨PO, hPO⟩ : ∃ PO, XrO w (ordX X) = PO := ⟨_, rfl⟩
 rw [hPO] at HNEW ⊢
 obtain ⟨n, hn⟩ : ∃ n, X.length = n := ⟨_, rfl⟩
 have HXN := Lib.hid hn
 rw [hn] at HRNG HXT hl ⊢
 have HN := Lib.hid hl
 clear h hn hPO hl
 go_enter Try.func14, Try.ntmps14
 go_upto_region 1 with fail
 refine wl <| gz1 (.slice none 0 0) <| wn ?_
 simp only [pu]
 go_upto_region 2 with fail
 refine wl <| gz3 (.slice a n c) (.int .i64 n) (.int .i64 0) <| wn ?_
 simp only [pu]
 go_wp2_with fail
 go_loopg [3, 9] n (fun gg sA sB wx => ∃ (i : Nat) (v : Value) (Y : List (En × Ad)), sB = .int .i64 i ∧ sA = v ∧ i ≤ n ∧ gg + i = n ∧ Hid (Y = ordX (X.take i) ∧ Y.length ≤ i ∧ Rowee wx w.heap.size v Y ∧ Below w.heap.size w wx))
 case atStart => exact ⟨0, _, [], rfl, rfl, by omega, by omega, Lib.hid ⟨rfl, Nat.le_refl _, World.ownsRow_nil _ _ _ _, Below.refl _ _⟩⟩
 case round =>
  obtain ⟨i, v, Y, rfl, rfl, hin, hg, HR⟩ := hrel
  have HGK : Hid (gk + i = n) := Lib.hid hg
  clear hg
  obtain ⟨a9, c9, rfl, -, hc9⟩ := HR.out.2.2.1.cs
  obtain ⟨m, hm⟩ : ∃ m, Y.length = m := ⟨_, rfl⟩
  have HM := Lib.hid hm
  rw [hm] at hc9
  rw [hm]
  have HC9 := Lib.hid hc9
  clear hc9 hm
  by_cases hlt : i < n
  ·skip
   obtain ⟨b, off, hbb, hrg⟩ := HRNG.out wr HR.out.2.2.2 i hlt
   obtain rfl := hbb
   obtain ⟨x, hx⟩ : ∃ x, X.getD i zEA = x := ⟨_, rfl⟩
   rw [hx] at hrg
   have HXI := Lib.hid (HXT.out i hlt)
   rw [hx] at HXI
   obtain ⟨V2, hst2, hb2, hX5⟩ := new_bx (c := enA zEn zAd) (c' := enA x.1 x.2) (ty := 50) wr rfl (enA_one _ _) (by kernel_rfl)
   have HR2 := Lib.hid (HR.out.2.2.2.trans (hb2.mono HR.out.2.2.2.size))
   have HO2 : Hid (Rowee V2 w.heap.size (.slice a9 m c9) Y) := Lib.hid (by have h9 := HR.out.2.2.1; rw [HM.out] at h9; exact h9.below hb2)
   have HY := Lib.hid HR.out.1
   have HYL : Hid (m ≤ i) := Lib.hid (by rw [← HM.out]; exact HR.out.2.1)
   clear HR hx
   go_upto_region 3 with fail
   refine wl <| gzb (lss_n rfl (i) (n) dT) <| wn ?_
   simp only [pu]
   go_upto_region 4 with fail
   refine wl <| gzv (.pointer (some ⟨b, off + i * 41, none⟩)) (idx_en b off n c i hlt _ _ _ rfl (by kernel_rfl) (by kernel_rfl)) <| gzl rfl ⟨b, off + i * 41, none⟩ (.agg (enA x.1 x.2)) (load_en hrg) ?_
   simp only [pu]
   refine run_to rfl (some 5) rfl (.pointer (some ⟨wr.heap.size, 0, none⟩)) (wr.alloc (.cells (enA zEn zAd) 50)) (by kernel_rfl) ?_
   simp only [pu]
   refine gzs rfl (hst2) <| wn ?_
   obtain ⟨g5, hg5⟩ : ∃ g, wr.heap.size = g := ⟨_, rfl⟩
   rw [hg5] at hX5 ⊢
   clear hst2 hb2 hrg hg5
   go_upto_region 5 with fail
   refine wl <| gz1 (.int .i64 0) <| wn ?_
   simp only [pu]
   have HX5 := Lib.hid hX5
   clear hX5
   go_wp2_with fail
   go_loopg [6] m (fun gg s6 wx => ∃ (k : Nat), s6 = .int .i64 k ∧ k ≤ m ∧ gg + k = m ∧ Hid (Below V2.heap.size V2 wx ∧ ∀ j, j < k → bfP (Y.getD j zEA).1 x.1 = true))
   case atStart => exact ⟨0, rfl, Nat.zero_le _, rfl, Lib.hid ⟨Below.refl _ _, fun j h1 => by omega⟩⟩
   case round =>
    obtain ⟨k, rfl, hkm, hgk, HW⟩ := hrel
    have HGI : Hid (gk + k = m) := Lib.hid hgk
    have hX5 := HX5.out.below HX5.out.lt HW.out.1
    clear hgk
    by_cases hk0 : k < m
    ·skip
     obtain ⟨a8, c8, e8, h8, -⟩ := (show Rowee wr w.heap.size (.slice a9 m c9) Y from HO2.out.below HW.out.1).cs
     obtain ⟨bz, oz, e9, -, hr9⟩ := fl_range enp enp_len (by omega) zEA h8 (i := k) (by rw [HM.out]; omega)
     simp only [Value.slice.injEq] at e8
     obtain rfl : a9 = some ⟨bz, oz, none⟩ := e8.1.trans e9
     clear h8 e8 e9
     obtain ⟨y, hy⟩ : ∃ y, Y.getD k zEA = y := ⟨_, rfl⟩
     rw [hy] at hr9
     have HYY := Lib.hid hy
     clear hy
     by_cases hp1 : y.1.pri < x.1.pri
     ·skip
      have hpp : bfP y.1 x.1 = true := by unfold bfP; rw [decide_eq_true hp1]; rfl
      go_upto_region 6 with fail
      refine wp_region_class (C := fun U => Below wr.heap.size wr U) (by kernel_rfl) (by kernel_rfl) ((Below.refl _ wr).drew) ?_
      refine gy (.int .i64 k) <| gy (.slice (some ⟨bz, oz, none⟩) m c9) <| gy (.int .i64 m) <| gyv (.bool true) (fun U hU => lss_n rfl (k : Int) m dT (by kernel_rfl) (by kernel_rfl) U) <| gy (.bool true) <| gy (.slice (some ⟨bz, oz, none⟩) m c9) <| gy (.int .i64 k) <|
        gyv (.pointer (some ⟨bz, oz + k * 41, none⟩)) (fun U hU => idx_en bz oz m c9 k (by omega) U _ _ rfl (by kernel_rfl) (by kernel_rfl)) <| gy (.pointer (some ⟨bz, oz + k * 41 + 36, none⟩)) <|
        gyl rfl ⟨bz, oz + k * 41 + 36, none⟩ (.int .u64 y.1.pri) (fun U hU => rg_cell (rg_below hr9 hU) (j := 36) rfl (by kernel_rfl)) <| gy (.pointer (some ⟨g5, 36, none⟩)) <|
        gyl rfl ⟨g5, 36, none⟩ (.int .u64 x.1.pri) (fun U hU => rg_cell (bx_range (hX5.below hX5.lt hU)) (j := 36) rfl (by kernel_rfl)) <| gyv (.bool true) (fun U hU => lss_w rfl y.1.pri x.1.pri (decide_eq_true hp1) (by kernel_rfl) (by kernel_rfl) U) <| gy (.bool true) <| gyn <| gyn <| gyn <| gyn <|
        gyn <| gyn <| gyn <| gyn <| gyn <| gyn <| gyn <| gyn <| gyn <| gyn <| gyn <| gyn <| gyn <| gyn <| gy (.bool true) <| gy (.bool true) ?_
      simp only [pu]
      apply wpQuiet_nil
      intro V6 hV6
      have hr6 := rg_below hr9 hV6
      clear hr9
      have hr9 := hr6
      clear hr6
      have HW2 : Hid (Below V2.heap.size V2 V6 ∧ ∀ j, j < k → bfP (Y.getD j zEA).1 x.1 = true) := Lib.hid ⟨HW.out.1.trans (hV6.mono HW.out.1.size), HW.out.2⟩
      have hX6 := hX5.below hX5.lt hV6
      clear hV6 HW hX5
      have HW := HW2
      have hX5 := hX6
      clear hX6
      generalize V6 = wr at *
      clear hr9 hX5
      go_upto_region 7 with fail
      refine wl <| gz1 (.int .i64 k) <| gzv (.int .i64 (k + 1 : Nat)) (add_one rfl k (by have := HYL.out; have := HN.out; omega) (by kernel_rfl) _) <| gz1 (.int .i64 (k + 1 : Nat)) <| wn ?_
      simp only [pu]
      go_wp2_with fail
      go_roundg (m - (k + 1))
      case measure => have := HGI.out; omega
      case rel =>
       refine ⟨k + 1, rfl, by omega, by omega, Lib.hid ⟨HW2.out.1, fun j h1 => ?_⟩⟩
       rcases Nat.lt_or_ge j k with h3 | h3
       ·exact HW2.out.2 j h3
       ·obtain rfl : j = k := by omega
        rw [HYY.out]; exact hpp
     ·skip
      by_cases hp2 : y.1.pri = x.1.pri
      ·skip
       by_cases hp3 : x.1.od < y.1.od
       ·skip
        have hpp : bfP y.1 x.1 = true := by unfold bfP; simp only [decide_eq_false hp1, decide_eq_true hp2, decide_eq_true hp3]; rfl
        go_upto_region 6 with fail
        refine wp_region_class (C := fun U => Below wr.heap.size wr U) (by kernel_rfl) (by kernel_rfl) ((Below.refl _ wr).drew) ?_
        refine gy (.int .i64 k) <| gy (.slice (some ⟨bz, oz, none⟩) m c9) <| gy (.int .i64 m) <| gyv (.bool true) (fun U hU => lss_n rfl (k : Int) m dT (by kernel_rfl) (by kernel_rfl) U) <| gy (.bool true) <| gy (.slice (some ⟨bz, oz, none⟩) m c9) <| gy (.int .i64 k) <|
          gyv (.pointer (some ⟨bz, oz + k * 41, none⟩)) (fun U hU => idx_en bz oz m c9 k (by omega) U _ _ rfl (by kernel_rfl) (by kernel_rfl)) <| gy (.pointer (some ⟨bz, oz + k * 41 + 36, none⟩)) <|
          gyl rfl ⟨bz, oz + k * 41 + 36, none⟩ (.int .u64 y.1.pri) (fun U hU => rg_cell (rg_below hr9 hU) (j := 36) rfl (by kernel_rfl)) <| gy (.pointer (some ⟨g5, 36, none⟩)) <|
          gyl rfl ⟨g5, 36, none⟩ (.int .u64 x.1.pri) (fun U hU => rg_cell (bx_range (hX5.below hX5.lt hU)) (j := 36) rfl (by kernel_rfl)) <| gyv (.bool false) (fun U hU => lss_w rfl y.1.pri x.1.pri (decide_eq_false hp1) (by kernel_rfl) (by kernel_rfl) U) <| gy (.bool false) <|
          gy (.slice (some ⟨bz, oz, none⟩) m c9) <| gy (.int .i64 k) <| gyv (.pointer (some ⟨bz, oz + k * 41, none⟩)) (fun U hU => idx_en bz oz m c9 k (by omega) U _ _ rfl (by kernel_rfl) (by kernel_rfl)) <| gy (.pointer (some ⟨bz, oz + k * 41 + 36, none⟩)) <|
          gyl rfl ⟨bz, oz + k * 41 + 36, none⟩ (.int .u64 y.1.pri) (fun U hU => rg_cell (rg_below hr9 hU) (j := 36) rfl (by kernel_rfl)) <| gy (.pointer (some ⟨g5, 36, none⟩)) <|
          gyl rfl ⟨g5, 36, none⟩ (.int .u64 x.1.pri) (fun U hU => rg_cell (bx_range (hX5.below hX5.lt hU)) (j := 36) rfl (by kernel_rfl)) <| gyv (.bool true) (fun U hU => eql_w rfl y.1.pri x.1.pri (decide_eq_true hp2) (by kernel_rfl) (by kernel_rfl) U) <| gy (.bool true) <|
          gy (.slice (some ⟨bz, oz, none⟩) m c9) <| gy (.int .i64 k) <| gyv (.pointer (some ⟨bz, oz + k * 41, none⟩)) (fun U hU => idx_en bz oz m c9 k (by omega) U _ _ rfl (by kernel_rfl) (by kernel_rfl)) <| gy (.pointer (some ⟨bz, oz + k * 41 + 39, none⟩)) <|
          gyl rfl ⟨bz, oz + k * 41 + 39, none⟩ (.int .i64 y.1.od) (fun U hU => rg_cell (rg_below hr9 hU) (j := 39) rfl (by kernel_rfl)) <| gy (.pointer (some ⟨g5, 39, none⟩)) <|
          gyl rfl ⟨g5, 39, none⟩ (.int .i64 x.1.od) (fun U hU => rg_cell (bx_range (hX5.below hX5.lt hU)) (j := 39) rfl (by kernel_rfl)) <| gyv (.bool true) (fun U hU => gtr_n rfl y.1.od x.1.od (decide_eq_true hp3) (by kernel_rfl) (by kernel_rfl) U) <| gy (.bool true) <| gy (.bool true) <|
          gy (.bool true) ?_
        simp only [pu]
        apply wpQuiet_nil
        intro V6 hV6
        have hr6 := rg_below hr9 hV6
        clear hr9
        have hr9 := hr6
        clear hr6
        have HW2 : Hid (Below V2.heap.size V2 V6 ∧ ∀ j, j < k → bfP (Y.getD j zEA).1 x.1 = true) := Lib.hid ⟨HW.out.1.trans (hV6.mono HW.out.1.size), HW.out.2⟩
        have hX6 := hX5.below hX5.lt hV6
        clear hV6 HW hX5
        have HW := HW2
        have hX5 := hX6
        clear hX6
        generalize V6 = wr at *
        clear hr9 hX5
        go_upto_region 7 with fail
        refine wl <| gz1 (.int .i64 k) <| gzv (.int .i64 (k + 1 : Nat)) (add_one rfl k (by have := HYL.out; have := HN.out; omega) (by kernel_rfl) _) <| gz1 (.int .i64 (k + 1 : Nat)) <| wn ?_
        simp only [pu]
        go_wp2_with fail
        go_roundg (m - (k + 1))
        case measure => have := HGI.out; omega
        case rel =>
         refine ⟨k + 1, rfl, by omega, by omega, Lib.hid ⟨HW2.out.1, fun j h1 => ?_⟩⟩
         rcases Nat.lt_or_ge j k with h3 | h3
         ·exact HW2.out.2 j h3
         ·obtain rfl : j = k := by omega
          rw [HYY.out]; exact hpp
       ·skip
        have hpp : bfP y.1 x.1 = false := by unfold bfP; simp only [decide_eq_false hp1, decide_eq_true hp2, decide_eq_false hp3]; rfl
        go_upto_region 6 with fail
        refine wp_region_class (C := fun U => Below wr.heap.size wr U) (by kernel_rfl) (by kernel_rfl) ((Below.refl _ wr).drew) ?_
        refine gy (.int .i64 k) <| gy (.slice (some ⟨bz, oz, none⟩) m c9) <| gy (.int .i64 m) <| gyv (.bool true) (fun U hU => lss_n rfl (k : Int) m dT (by kernel_rfl) (by kernel_rfl) U) <| gy (.bool true) <| gy (.slice (some ⟨bz, oz, none⟩) m c9) <| gy (.int .i64 k) <|
          gyv (.pointer (some ⟨bz, oz + k * 41, none⟩)) (fun U hU => idx_en bz oz m c9 k (by omega) U _ _ rfl (by kernel_rfl) (by kernel_rfl)) <| gy (.pointer (some ⟨bz, oz + k * 41 + 36, none⟩)) <|
          gyl rfl ⟨bz, oz + k * 41 + 36, none⟩ (.int .u64 y.1.pri) (fun U hU => rg_cell (rg_below hr9 hU) (j := 36) rfl (by kernel_rfl)) <| gy (.pointer (some ⟨g5, 36, none⟩)) <|
          gyl rfl ⟨g5, 36, none⟩ (.int .u64 x.1.pri) (fun U hU => rg_cell (bx_range (hX5.below hX5.lt hU)) (j := 36) rfl (by kernel_rfl)) <| gyv (.bool false) (fun U hU => lss_w rfl y.1.pri x.1.pri (decide_eq_false hp1) (by kernel_rfl) (by kernel_rfl) U) <| gy (.bool false) <|
          gy (.slice (some ⟨bz, oz, none⟩) m c9) <| gy (.int .i64 k) <| gyv (.pointer (some ⟨bz, oz + k * 41, none⟩)) (fun U hU => idx_en bz oz m c9 k (by omega) U _ _ rfl (by kernel_rfl) (by kernel_rfl)) <| gy (.pointer (some ⟨bz, oz + k * 41 + 36, none⟩)) <|
          gyl rfl ⟨bz, oz + k * 41 + 36, none⟩ (.int .u64 y.1.pri) (fun U hU => rg_cell (rg_below hr9 hU) (j := 36) rfl (by kernel_rfl)) <| gy (.pointer (some ⟨g5, 36, none⟩)) <|
          gyl rfl ⟨g5, 36, none⟩ (.int .u64 x.1.pri) (fun U hU => rg_cell (bx_range (hX5.below hX5.lt hU)) (j := 36) rfl (by kernel_rfl)) <| gyv (.bool true) (fun U hU => eql_w rfl y.1.pri x.1.pri (decide_eq_true hp2) (by kernel_rfl) (by kernel_rfl) U) <| gy (.bool true) <|
          gy (.slice (some ⟨bz, oz, none⟩) m c9) <| gy (.int .i64 k) <| gyv (.pointer (some ⟨bz, oz + k * 41, none⟩)) (fun U hU => idx_en bz oz m c9 k (by omega) U _ _ rfl (by kernel_rfl) (by kernel_rfl)) <| gy (.pointer (some ⟨bz, oz + k * 41 + 39, none⟩)) <|
          gyl rfl ⟨bz, oz + k * 41 + 39, none⟩ (.int .i64 y.1.od) (fun U hU => rg_cell (rg_below hr9 hU) (j := 39) rfl (by kernel_rfl)) <| gy (.pointer (some ⟨g5, 39, none⟩)) <|
          gyl rfl ⟨g5, 39, none⟩ (.int .i64 x.1.od) (fun U hU => rg_cell (bx_range (hX5.below hX5.lt hU)) (j := 39) rfl (by kernel_rfl)) <| gyv (.bool false) (fun U hU => gtr_n rfl y.1.od x.1.od (decide_eq_false hp3) (by kernel_rfl) (by kernel_rfl) U) <| gy (.bool false) <| gy (.bool false) <|
          gy (.bool false) ?_
        simp only [pu]
        apply wpQuiet_nil
        intro V6 hV6
        have hr6 := rg_below hr9 hV6
        clear hr9
        have hr9 := hr6
        clear hr6
        have HW2 : Hid (Below V2.heap.size V2 V6 ∧ ∀ j, j < k → bfP (Y.getD j zEA).1 x.1 = true) := Lib.hid ⟨HW.out.1.trans (hV6.mono HW.out.1.size), HW.out.2⟩
        have hX6 := hX5.below hX5.lt hV6
        clear hV6 HW hX5
        have HW := HW2
        have hX5 := hX6
        clear hX6
        generalize V6 = wr at *
        clear HW2
        have HK : Hid (insX Y x = Y.take k ++ [x] ++ Y.drop k) := Lib.hid (by
         rw [insX_at Y x k (by rw [HM.out]; exact hkm) HW.out.2 (fun _ => by rw [HYY.out]; exact hpp), List.append_assoc]
         rfl)
        have HTL : Hid ((Y.take k).length = k) := Lib.hid (by rw [List.length_take, HM.out]; omega)
        have HDL : Hid ((Y.drop k).length = m - k) := Lib.hid (by rw [List.length_drop, HM.out])
        have HB9 := Lib.hid (HR2.out.trans (HW.out.1.mono HR2.out.size))
        have HO9 : Hid (∀ U, Below wr.heap.size wr U → Cs U (some ⟨bz, oz, none⟩) (ens Y)) := Lib.hid fun U hU => by
         obtain ⟨a8, c8, e8, h8, -⟩ := (show Rowee U w.heap.size (.slice (some ⟨bz, oz, none⟩) m c9) Y from (HO2.out.below HW.out.1).below hU).cs
         simp only [Value.slice.injEq] at e8
         rw [e8.1]
         exact h8
        have hc9 := HC9.out
        have h0 := CH.start wr x (Y.take k) (Y.take k ++ [x]) (Y.take k ++ [x] ++ Y.drop k) u49 u53 u56 u60 u55
        generalize wr = V7 at *
        clear HW HO2 HX5 HGI
        go_upto_region 8 with fail
        refine wp_region_inv (fun listed act9 V => ∃ b0 b1 b2 b3 b4 b5 b6 b7 b8 b9 b10 b11 b12 : Bool, ∃ x49 x53 x55 x56 x60 : Value, listed = #[b0, b1, b2, b3, b4, b5, b6, b7, b8, b9, b10, b11, b12] ∧ act9 = { tmps := #[.slice (some ⟨b, off, none⟩) n c, undef, .slice none 0 0, (cond b12 (x60) (.slice (some ⟨bz, oz, none⟩) m c9)), undef, .pointer (some ⟨g5, 0, none⟩), .int .i64 k, .slice (some ⟨b, off, none⟩) n c, .int .i64 n, .int .i64 i, .bool true, .pointer (some ⟨b, off + i * 41, none⟩), .agg (enA x.1 x.2), .int .i64 k, .slice (some ⟨bz, oz, none⟩) m c9, .int .i64 m, .bool true, .bool true, .slice (some ⟨bz, oz, none⟩) m c9, .int .i64 k, .pointer (some ⟨bz, oz + k * 41, none⟩), .pointer (some ⟨bz, oz + k * 41 + 36, none⟩), .int .u64 y.1.pri, .pointer (some ⟨g5, 36, none⟩), .int .u64 x.1.pri, .bool false, .bool false, .slice (some ⟨bz, oz, none⟩) m c9, .int .i64 k, .pointer (some ⟨bz, oz + k * 41, none⟩), .pointer (some ⟨bz, oz + k * 41 + 36, none⟩), .int .u64 y.1.pri, .pointer (some ⟨g5, 36, none⟩), .int .u64 x.1.pri, .bool true, .bool true, .slice (some ⟨bz, oz, none⟩) m c9, .int .i64 k, .pointer (some ⟨bz, oz + k * 41, none⟩), .pointer (some ⟨bz, oz + k * 41 + 39, none⟩), .int .i64 y.1.od, .pointer (some ⟨g5, 39, none⟩), .int .i64 x.1.od, .bool false, .bool false, .bool false, .bool false, u47, u48, x49, (cond b1 (.slice (some ⟨bz, oz, none⟩) m c9) (u50)), (cond b2 (.int .i64 k) (u51)), (cond b3 (.slice (some ⟨bz, oz, none⟩) k c9) (u52)), x53, (cond b5 (.agg (enA x.1 x.2)) (u54)), x55, x56, (cond b8 (.slice (some ⟨bz, oz, none⟩) m c9) (u57)), (cond b9 (.int .i64 k) (u58)), (cond b10 (.slice (fromS 41 (some ⟨bz, oz, none⟩) c9 k) (m - k) (c9 - k)) (u59)), x60, u61, undef], defers := [] } ∧ CH V7 x (Y.take k) (Y.take k ++ [x]) (Y.take k ++ [x] ++ Y.drop k) b0 b4 b7 b11 b6 x49 x53 x56 x60 x55 V ∧ (b12 = true → b11 = true) ∧ OD b1 b3 b4 b8 b10 b11) (by kernel_rfl) (by kernel_rfl) ?_ ?_ ?_
        ·exact ⟨false, false, false, false, false, false, false, false, false, false, false, false, false, u49, u53, u55, u56, u60, rfl, rfl, h0, fun h => (by cases h), OD.z⟩
        ·intro i9 listed act9 V hi9 hr hJ
         obtain ⟨b0, b1, b2, b3, b4, b5, b6, b7, b8, b9, b10, b11, b12, x49, x53, x55, x56, x60, rfl, rfl, hF, hA, hD⟩ := hJ
         have hi2 : i9 < 13 := hi9
         have hi3 : i9 = 0 ∨ i9 = 1 ∨ i9 = 2 ∨ i9 = 3 ∨ i9 = 4 ∨ i9 = 5 ∨ i9 = 6 ∨ i9 = 7 ∨ i9 = 8 ∨ i9 = 9 ∨ i9 = 10 ∨ i9 = 11 ∨ i9 = 12 := by omega
         rcases hi3 with rfl | rfl | rfl | rfl | rfl | rfl | rfl | rfl | rfl | rfl | rfl | rfl | rfl
         ·obtain rfl : b0 = false := ready_self hr
          obtain rfl : b4 = false := by cases b4; rfl; exact absurd (hF.c1 rfl) (by decide)
          obtain rfl : b7 = false := by cases b7; rfl; exact absurd (hF.c2 rfl) (by decide)
          obtain rfl : b11 = false := by cases b11; rfl; exact absurd (hF.c3 rfl) (by decide)
          refine st_build rfl (by kernel_rfl) (some 49) rfl 22 0 #[] rfl #[] (by kernel_rfl) (.slice (some ⟨V.heap.size, 0, none⟩) 0 0) _ (nil_ee V) ?_
          exact ⟨true, b1, b2, b3, false, b5, b6, false, b8, b9, b10, false, b12, _, x53, x55, x56, x60, rfl, rfl, hF.nil, hA, ⟨hD.a, hD.b, hD.c, hD.d⟩⟩
         ·obtain rfl : b1 = false := ready_self hr
          obtain rfl : b12 = false := by cases b12; rfl; exact absurd (hD.a (hD.b (hF.c2 (hF.c3 (hA rfl))))) (by decide)
          refine st_val rfl (by kernel_rfl) (some 50) rfl (.slice (some ⟨bz, oz, none⟩) m c9) V (by kernel_rfl) ?_
          exact ⟨b0, true, b2, b3, b4, b5, b6, b7, b8, b9, b10, b11, false, x49, x53, x55, x56, x60, rfl, rfl, hF, hA, ⟨fun _ => rfl, hD.b, hD.c, hD.d⟩⟩
         ·obtain rfl : b2 = false := ready_self hr
          refine st_val rfl (by kernel_rfl) (some 51) rfl (.int .i64 k) V (by kernel_rfl) ?_
          exact ⟨b0, b1, true, b3, b4, b5, b6, b7, b8, b9, b10, b11, b12, x49, x53, x55, x56, x60, rfl, rfl, hF, hA, ⟨hD.a, hD.b, hD.c, hD.d⟩⟩
         ·obtain rfl : b3 = false := ready_self hr
          obtain rfl : b1 = true := ready_dep hr 1 (by kernel_rfl)
          obtain rfl : b2 = true := ready_dep hr 2 (by kernel_rfl)
          refine st_slice_to rfl (by kernel_rfl) (some 52) rfl 22 (.tmp 50) (.tmp 51) rfl (.slice (some ⟨bz, oz, none⟩) m c9) (.int .i64 (k : Int)) (.slice (some ⟨bz, oz, none⟩) k c9) (by kernel_rfl) (by kernel_rfl) (cut_ee_to (some ⟨bz, oz, none⟩) m c9 k V (by omega)) ?_
          exact ⟨b0, true, true, true, b4, b5, b6, b7, b8, b9, b10, b11, b12, x49, x53, x55, x56, x60, rfl, rfl, hF, hA, ⟨fun _ => rfl, fun _ => rfl, hD.c, hD.d⟩⟩
         ·obtain rfl : b4 = false := ready_self hr
          obtain rfl : b0 = true := ready_dep hr 0 (by kernel_rfl)
          obtain rfl : b3 = true := ready_dep hr 3 (by kernel_rfl)
          obtain rfl : b7 = false := by cases b7; rfl; exact absurd (hF.c2 rfl) (by decide)
          obtain rfl : b11 = false := by cases b11; rfl; exact absurd (hF.c3 rfl) (by decide)
          have hO := hF.r0 rfl rfl
          obtain ⟨v, V2, hap, hO2, hb2, hg2, hat2⟩ := hO.app hF.bel.size (some ⟨bz, oz, none⟩) k c9 (Y.take k) (by rw [← ens_take]; exact (HO9.out _ hF.bel).take _) HTL.out (by simp) (by have := HYL.out; have := HN.out; omega)
          refine st_append rfl (by kernel_rfl) (some 53) rfl 22 rfl (.tmp 49) (.tmp 52) 22 rfl x49 (.slice (some ⟨bz, oz, none⟩) k c9) v V2 (by kernel_rfl) (by kernel_rfl) hap ?_
          exact ⟨true, b1, b2, true, true, b5, b6, false, b8, b9, b10, false, b12, x49, v, x55, x56, x60, rfl, rfl, hF.one (by rw [List.nil_append] at hO2; exact hO2) hb2 hg2 hat2, hA, ⟨hD.a, fun _ => rfl, hD.c, hD.d⟩⟩
         ·obtain rfl : b5 = false := ready_self hr
          refine st_load rfl (by kernel_rfl) (some 54) rfl 50 (.tmp 5) rfl ⟨g5, 0, none⟩ (.agg (enA x.1 x.2)) (by kernel_rfl) (load_en (bx_range (hX5.below hX5.lt hF.bel))) ?_
          exact ⟨b0, b1, b2, b3, b4, true, b6, b7, b8, b9, b10, b11, b12, x49, x53, x55, x56, x60, rfl, rfl, hF, hA, ⟨hD.a, hD.b, hD.c, hD.d⟩⟩
         ·obtain rfl : b6 = false := ready_self hr
          obtain rfl : b5 = true := ready_dep hr 5 (by kernel_rfl)
          refine st_build rfl (by kernel_rfl) (some 55) rfl 22 1 #[(0, .tmp 54)] rfl #[(0, .agg (enA x.1 x.2))] (by kernel_rfl) (.slice (some ⟨V.heap.size, 0, none⟩) 1 1) _ (build_ee x V) ?_
          exact ⟨b0, b1, b2, b3, b4, true, true, b7, b8, b9, b10, b11, b12, x49, x53, _, x56, x60, rfl, rfl, hF.key, hA, ⟨hD.a, hD.b, hD.c, hD.d⟩⟩
         ·obtain rfl : b7 = false := ready_self hr
          obtain rfl : b4 = true := ready_dep hr 4 (by kernel_rfl)
          obtain rfl : b6 = true := ready_dep hr 6 (by kernel_rfl)
          obtain rfl : b11 = false := by cases b11; rfl; exact absurd (hF.c3 rfl) (by decide)
          have hO := hF.r1 rfl rfl
          obtain ⟨gq, rfl, hgx, -⟩ := hF.kx rfl
          have hgc := ens_of hgx
          obtain ⟨v, V2, hap, hO2, hb2, hg2, hat2⟩ := hO.app hF.bel.size (some ⟨gq, 0, none⟩) 1 1 [x] hgc rfl (by rw [HTL.out]; have := HYL.out; have := HN.out; omega) (by omega)
          refine st_append rfl (by kernel_rfl) (some 56) rfl 22 rfl (.tmp 53) (.tmp 55) 22 rfl x53 (.slice (some ⟨gq, 0, none⟩) 1 1) v V2 (by kernel_rfl) (by kernel_rfl) hap ?_
          exact ⟨b0, b1, b2, b3, true, b5, true, true, b8, b9, b10, false, b12, x49, x53, _, v, x60, rfl, rfl, hF.two hO2 hb2 hg2 hat2, hA, ⟨hD.a, hD.b, hD.c, hD.d⟩⟩
         ·obtain rfl : b8 = false := ready_self hr
          obtain rfl : b12 = false := by cases b12; rfl; exact absurd (hD.c (hD.d (hA rfl))) (by decide)
          refine st_val rfl (by kernel_rfl) (some 57) rfl (.slice (some ⟨bz, oz, none⟩) m c9) V (by kernel_rfl) ?_
          exact ⟨b0, b1, b2, b3, b4, b5, b6, b7, true, b9, b10, b11, false, x49, x53, x55, x56, x60, rfl, rfl, hF, hA, ⟨hD.a, hD.b, fun _ => rfl, hD.d⟩⟩
         ·obtain rfl : b9 = false := ready_self hr
          refine st_val rfl (by kernel_rfl) (some 58) rfl (.int .i64 k) V (by kernel_rfl) ?_
          exact ⟨b0, b1, b2, b3, b4, b5, b6, b7, b8, true, b10, b11, b12, x49, x53, x55, x56, x60, rfl, rfl, hF, hA, ⟨hD.a, hD.b, hD.c, hD.d⟩⟩
         ·obtain rfl : b10 = false := ready_self hr
          obtain rfl : b8 = true := ready_dep hr 8 (by kernel_rfl)
          obtain rfl : b9 = true := ready_dep hr 9 (by kernel_rfl)
          refine st_slice_from rfl (by kernel_rfl) (some 59) rfl 22 (.tmp 57) (.tmp 58) rfl (.slice (some ⟨bz, oz, none⟩) m c9) (.int .i64 ((k : Nat) : Int)) (.slice (fromS 41 (some ⟨bz, oz, none⟩) c9 k) (m - k) (c9 - k)) (by kernel_rfl) (by kernel_rfl) (cut_ee_from (some ⟨bz, oz, none⟩) m c9 (k) V (by omega)) ?_
          exact ⟨b0, b1, b2, b3, b4, b5, b6, b7, true, true, true, b11, b12, x49, x53, x55, x56, x60, rfl, rfl, hF, hA, ⟨hD.a, hD.b, fun _ => rfl, fun _ => rfl⟩⟩
         ·obtain rfl : b11 = false := ready_self hr
          obtain rfl : b7 = true := ready_dep hr 7 (by kernel_rfl)
          obtain rfl : b10 = true := ready_dep hr 10 (by kernel_rfl)
          obtain rfl : b12 = false := by cases b12; rfl; exact absurd (hA rfl) (by decide)
          have hO := hF.r2 rfl rfl
          obtain ⟨v, V2, hap, hO2, hb2, hg2, hat2⟩ := hO.app hF.bel.size (fromS 41 (some ⟨bz, oz, none⟩) c9 k) (m - k) (c9 - k) (Y.drop k) (by rw [← ens_drop]; exact (HO9.out _ hF.bel).from 41 c9 k (by rw [ens_len, HM.out]; omega)) HDL.out (by rw [List.length_append, HTL.out]; simp; have := HYL.out; have := HN.out; omega) (by have := HYL.out; have := HN.out; omega)
          refine st_append rfl (by kernel_rfl) (some 60) rfl 22 rfl (.tmp 56) (.tmp 59) 22 rfl x56 (.slice (fromS 41 (some ⟨bz, oz, none⟩) c9 k) (m - k) (c9 - k)) v V2 (by kernel_rfl) (by kernel_rfl) hap ?_
          exact ⟨b0, b1, b2, b3, b4, b5, b6, true, b8, b9, true, true, false, x49, x53, x55, x56, v, rfl, rfl, hF.three hO2 hb2 hg2 hat2, fun h => (by cases h), ⟨hD.a, hD.b, hD.c, fun _ => rfl⟩⟩
         ·obtain rfl : b12 = false := ready_self hr
          obtain rfl : b11 = true := ready_dep hr 11 (by kernel_rfl)
          refine st_val rfl (by kernel_rfl) (some 3) rfl (x60) V (by kernel_rfl) ?_
          exact ⟨b0, b1, b2, b3, b4, b5, b6, b7, b8, b9, b10, true, true, x49, x53, x55, x56, x60, rfl, rfl, hF, fun _ => rfl, ⟨hD.a, hD.b, hD.c, hD.d⟩⟩
        ·intro act9 V hJ
         obtain ⟨b0, b1, b2, b3, b4, b5, b6, b7, b8, b9, b10, b11, b12, x49, x53, x55, x56, x60, he, rfl, hF, hA, hD⟩ := hJ
         have he : (#[true, true, true, true, true, true, true, true, true, true, true, true, true] : Array Bool) = #[b0, b1, b2, b3, b4, b5, b6, b7, b8, b9, b10, b11, b12] := he
         simp only [Array.mk.injEq, List.cons.injEq, and_true] at he
         obtain ⟨rfl, rfl, rfl, rfl, rfl, rfl, rfl, rfl, rfl, rfl, rfl, rfl, rfl⟩ := he
         simp only [cond_true]
         have hO := hF.r3 rfl
         have HE : Hid (Y.take k ++ [x] ++ Y.drop k = ordX (X.take (i + 1)) ∧ (Y.take k ++ [x] ++ Y.drop k).length ≤ i + 1 ∧ Rowee V w.heap.size x60 (Y.take k ++ [x] ++ Y.drop k) ∧ Below w.heap.size w V) := Lib.hid ⟨by rw [HXI.out, ← HY.out]; exact HK.out.symm, by rw [List.length_append, List.length_append, HTL.out, HDL.out]; have := HYL.out; simp; omega, own_base hO HB9.out.size, HB9.out.trans (hF.bel.mono HB9.out.size)⟩
         clear hF h0 hO hX5
         go_upto_region 9 with fail
         refine wl <| gzv (.int .i64 (i + 1 : Nat)) (add_one rfl i (by have := HN.out; omega) (by kernel_rfl) _) <| gz1 (.int .i64 (i + 1 : Nat)) <| wn ?_
         simp only [pu]
         go_wp2_with fail
         go_roundg (n - (i + 1))
         case measure => have := HGK.out; omega
         case rel => exact ⟨i + 1, _, _, rfl, rfl, by omega, by omega, HE⟩
      ·skip
       have hpp : bfP y.1 x.1 = false := by unfold bfP; simp only [decide_eq_false hp1, decide_eq_false hp2]; rfl
       go_upto_region 6 with fail
       refine wp_region_class (C := fun U => Below wr.heap.size wr U) (by kernel_rfl) (by kernel_rfl) ((Below.refl _ wr).drew) ?_
       refine gy (.int .i64 k) <| gy (.slice (some ⟨bz, oz, none⟩) m c9) <| gy (.int .i64 m) <| gyv (.bool true) (fun U hU => lss_n rfl (k : Int) m dT (by kernel_rfl) (by kernel_rfl) U) <| gy (.bool true) <| gy (.slice (some ⟨bz, oz, none⟩) m c9) <| gy (.int .i64 k) <|
         gyv (.pointer (some ⟨bz, oz + k * 41, none⟩)) (fun U hU => idx_en bz oz m c9 k (by omega) U _ _ rfl (by kernel_rfl) (by kernel_rfl)) <| gy (.pointer (some ⟨bz, oz + k * 41 + 36, none⟩)) <|
         gyl rfl ⟨bz, oz + k * 41 + 36, none⟩ (.int .u64 y.1.pri) (fun U hU => rg_cell (rg_below hr9 hU) (j := 36) rfl (by kernel_rfl)) <| gy (.pointer (some ⟨g5, 36, none⟩)) <|
         gyl rfl ⟨g5, 36, none⟩ (.int .u64 x.1.pri) (fun U hU => rg_cell (bx_range (hX5.below hX5.lt hU)) (j := 36) rfl (by kernel_rfl)) <| gyv (.bool false) (fun U hU => lss_w rfl y.1.pri x.1.pri (decide_eq_false hp1) (by kernel_rfl) (by kernel_rfl) U) <| gy (.bool false) <|
         gy (.slice (some ⟨bz, oz, none⟩) m c9) <| gy (.int .i64 k) <| gyv (.pointer (some ⟨bz, oz + k * 41, none⟩)) (fun U hU => idx_en bz oz m c9 k (by omega) U _ _ rfl (by kernel_rfl) (by kernel_rfl)) <| gy (.pointer (some ⟨bz, oz + k * 41 + 36, none⟩)) <|
         gyl rfl ⟨bz, oz + k * 41 + 36, none⟩ (.int .u64 y.1.pri) (fun U hU => rg_cell (rg_below hr9 hU) (j := 36) rfl (by kernel_rfl)) <| gy (.pointer (some ⟨g5, 36, none⟩)) <|
         gyl rfl ⟨g5, 36, none⟩ (.int .u64 x.1.pri) (fun U hU => rg_cell (bx_range (hX5.below hX5.lt hU)) (j := 36) rfl (by kernel_rfl)) <| gyv (.bool false) (fun U hU => eql_w rfl y.1.pri x.1.pri (decide_eq_false hp2) (by kernel_rfl) (by kernel_rfl) U) <| gy (.bool false) <| gyn <| gyn <| gyn <|
         gyn <| gyn <| gyn <| gyn <| gyn <| gy (.bool false) <| gy (.bool false) <| gy (.bool false) ?_
       simp only [pu]
       apply wpQuiet_nil
       intro V6 hV6
       have hr6 := rg_below hr9 hV6
       clear hr9
       have hr9 := hr6
       clear hr6
       have HW2 : Hid (Below V2.heap.size V2 V6 ∧ ∀ j, j < k → bfP (Y.getD j zEA).1 x.1 = true) := Lib.hid ⟨HW.out.1.trans (hV6.mono HW.out.1.size), HW.out.2⟩
       have hX6 := hX5.below hX5.lt hV6
       clear hV6 HW hX5
       have HW := HW2
       have hX5 := hX6
       clear hX6
       generalize V6 = wr at *
       clear HW2
       have HK : Hid (insX Y x = Y.take k ++ [x] ++ Y.drop k) := Lib.hid (by
        rw [insX_at Y x k (by rw [HM.out]; exact hkm) HW.out.2 (fun _ => by rw [HYY.out]; exact hpp), List.append_assoc]
        rfl)
       have HTL : Hid ((Y.take k).length = k) := Lib.hid (by rw [List.length_take, HM.out]; omega)
       have HDL : Hid ((Y.drop k).length = m - k) := Lib.hid (by rw [List.length_drop, HM.out])
       have HB9 := Lib.hid (HR2.out.trans (HW.out.1.mono HR2.out.size))
       have HO9 : Hid (∀ U, Below wr.heap.size wr U → Cs U (some ⟨bz, oz, none⟩) (ens Y)) := Lib.hid fun U hU => by
        obtain ⟨a8, c8, e8, h8, -⟩ := (show Rowee U w.heap.size (.slice (some ⟨bz, oz, none⟩) m c9) Y from (HO2.out.below HW.out.1).below hU).cs
        simp only [Value.slice.injEq] at e8
        rw [e8.1]
        exact h8
       have hc9 := HC9.out
       have h0 := CH.start wr x (Y.take k) (Y.take k ++ [x]) (Y.take k ++ [x] ++ Y.drop k) u49 u53 u56 u60 u55
       generalize wr = V7 at *
       clear HW HO2 HX5 HGI
       go_upto_region 8 with fail
       refine wp_region_inv (fun listed act9 V => ∃ b0 b1 b2 b3 b4 b5 b6 b7 b8 b9 b10 b11 b12 : Bool, ∃ x49 x53 x55 x56 x60 : Value, listed = #[b0, b1, b2, b3, b4, b5, b6, b7, b8, b9, b10, b11, b12] ∧ act9 = { tmps := #[.slice (some ⟨b, off, none⟩) n c, undef, .slice none 0 0, (cond b12 (x60) (.slice (some ⟨bz, oz, none⟩) m c9)), undef, .pointer (some ⟨g5, 0, none⟩), .int .i64 k, .slice (some ⟨b, off, none⟩) n c, .int .i64 n, .int .i64 i, .bool true, .pointer (some ⟨b, off + i * 41, none⟩), .agg (enA x.1 x.2), .int .i64 k, .slice (some ⟨bz, oz, none⟩) m c9, .int .i64 m, .bool true, .bool true, .slice (some ⟨bz, oz, none⟩) m c9, .int .i64 k, .pointer (some ⟨bz, oz + k * 41, none⟩), .pointer (some ⟨bz, oz + k * 41 + 36, none⟩), .int .u64 y.1.pri, .pointer (some ⟨g5, 36, none⟩), .int .u64 x.1.pri, .bool false, .bool false, .slice (some ⟨bz, oz, none⟩) m c9, .int .i64 k, .pointer (some ⟨bz, oz + k * 41, none⟩), .pointer (some ⟨bz, oz + k * 41 + 36, none⟩), .int .u64 y.1.pri, .pointer (some ⟨g5, 36, none⟩), .int .u64 x.1.pri, .bool false, .bool false, undef, undef, undef, undef, undef, undef, undef, undef, .bool false, .bool false, .bool false, u47, u48, x49, (cond b1 (.slice (some ⟨bz, oz, none⟩) m c9) (u50)), (cond b2 (.int .i64 k) (u51)), (cond b3 (.slice (some ⟨bz, oz, none⟩) k c9) (u52)), x53, (cond b5 (.agg (enA x.1 x.2)) (u54)), x55, x56, (cond b8 (.slice (some ⟨bz, oz, none⟩) m c9) (u57)), (cond b9 (.int .i64 k) (u58)), (cond b10 (.slice (fromS 41 (some ⟨bz, oz, none⟩) c9 k) (m - k) (c9 - k)) (u59)), x60, u61, undef], defers := [] } ∧ CH V7 x (Y.take k) (Y.take k ++ [x]) (Y.take k ++ [x] ++ Y.drop k) b0 b4 b7 b11 b6 x49 x53 x56 x60 x55 V ∧ (b12 = true → b11 = true) ∧ OD b1 b3 b4 b8 b10 b11) (by kernel_rfl) (by kernel_rfl) ?_ ?_ ?_
       ·exact ⟨false, false, false, false, false, false, false, false, false, false, false, false, false, u49, u53, u55, u56, u60, rfl, rfl, h0, fun h => (by cases h), OD.z⟩
       ·intro i9 listed act9 V hi9 hr hJ
        obtain ⟨b0, b1, b2, b3, b4, b5, b6, b7, b8, b9, b10, b11, b12, x49, x53, x55, x56, x60, rfl, rfl, hF, hA, hD⟩ := hJ
        have hi2 : i9 < 13 := hi9
        have hi3 : i9 = 0 ∨ i9 = 1 ∨ i9 = 2 ∨ i9 = 3 ∨ i9 = 4 ∨ i9 = 5 ∨ i9 = 6 ∨ i9 = 7 ∨ i9 = 8 ∨ i9 = 9 ∨ i9 = 10 ∨ i9 = 11 ∨ i9 = 12 := by omega
        rcases hi3 with rfl | rfl | rfl | rfl | rfl | rfl | rfl | rfl | rfl | rfl | rfl | rfl | rfl
        ·obtain rfl : b0 = false := ready_self hr
         obtain rfl : b4 = false := by cases b4; rfl; exact absurd (hF.c1 rfl) (by decide)
         obtain rfl : b7 = false := by cases b7; rfl; exact absurd (hF.c2 rfl) (by decide)
         obtain rfl : b11 = false := by cases b11; rfl; exact absurd (hF.c3 rfl) (by decide)
         refine st_build rfl (by kernel_rfl) (some 49) rfl 22 0 #[] rfl #[] (by kernel_rfl) (.slice (some ⟨V.heap.size, 0, none⟩) 0 0) _ (nil_ee V) ?_
         exact ⟨true, b1, b2, b3, false, b5, b6, false, b8, b9, b10, false, b12, _, x53, x55, x56, x60, rfl, rfl, hF.nil, hA, ⟨hD.a, hD.b, hD.c, hD.d⟩⟩
        ·obtain rfl : b1 = false := ready_self hr
         obtain rfl : b12 = false := by cases b12; rfl; exact absurd (hD.a (hD.b (hF.c2 (hF.c3 (hA rfl))))) (by decide)
         refine st_val rfl (by kernel_rfl) (some 50) rfl (.slice (some ⟨bz, oz, none⟩) m c9) V (by kernel_rfl) ?_
         exact ⟨b0, true, b2, b3, b4, b5, b6, b7, b8, b9, b10, b11, false, x49, x53, x55, x56, x60, rfl, rfl, hF, hA, ⟨fun _ => rfl, hD.b, hD.c, hD.d⟩⟩
        ·obtain rfl : b2 = false := ready_self hr
         refine st_val rfl (by kernel_rfl) (some 51) rfl (.int .i64 k) V (by kernel_rfl) ?_
         exact ⟨b0, b1, true, b3, b4, b5, b6, b7, b8, b9, b10, b11, b12, x49, x53, x55, x56, x60, rfl, rfl, hF, hA, ⟨hD.a, hD.b, hD.c, hD.d⟩⟩
        ·obtain rfl : b3 = false := ready_self hr
         obtain rfl : b1 = true := ready_dep hr 1 (by kernel_rfl)
         obtain rfl : b2 = true := ready_dep hr 2 (by kernel_rfl)
         refine st_slice_to rfl (by kernel_rfl) (some 52) rfl 22 (.tmp 50) (.tmp 51) rfl (.slice (some ⟨bz, oz, none⟩) m c9) (.int .i64 (k : Int)) (.slice (some ⟨bz, oz, none⟩) k c9) (by kernel_rfl) (by kernel_rfl) (cut_ee_to (some ⟨bz, oz, none⟩) m c9 k V (by omega)) ?_
         exact ⟨b0, true, true, true, b4, b5, b6, b7, b8, b9, b10, b11, b12, x49, x53, x55, x56, x60, rfl, rfl, hF, hA, ⟨fun _ => rfl, fun _ => rfl, hD.c, hD.d⟩⟩
        ·obtain rfl : b4 = false := ready_self hr
         obtain rfl : b0 = true := ready_dep hr 0 (by kernel_rfl)
         obtain rfl : b3 = true := ready_dep hr 3 (by kernel_rfl)
         obtain rfl : b7 = false := by cases b7; rfl; exact absurd (hF.c2 rfl) (by decide)
         obtain rfl : b11 = false := by cases b11; rfl; exact absurd (hF.c3 rfl) (by decide)
         have hO := hF.r0 rfl rfl
         obtain ⟨v, V2, hap, hO2, hb2, hg2, hat2⟩ := hO.app hF.bel.size (some ⟨bz, oz, none⟩) k c9 (Y.take k) (by rw [← ens_take]; exact (HO9.out _ hF.bel).take _) HTL.out (by simp) (by have := HYL.out; have := HN.out; omega)
         refine st_append rfl (by kernel_rfl) (some 53) rfl 22 rfl (.tmp 49) (.tmp 52) 22 rfl x49 (.slice (some ⟨bz, oz, none⟩) k c9) v V2 (by kernel_rfl) (by kernel_rfl) hap ?_
         exact ⟨true, b1, b2, true, true, b5, b6, false, b8, b9, b10, false, b12, x49, v, x55, x56, x60, rfl, rfl, hF.one (by rw [List.nil_append] at hO2; exact hO2) hb2 hg2 hat2, hA, ⟨hD.a, fun _ => rfl, hD.c, hD.d⟩⟩
        ·obtain rfl : b5 = false := ready_self hr
         refine st_load rfl (by kernel_rfl) (some 54) rfl 50 (.tmp 5) rfl ⟨g5, 0, none⟩ (.agg (enA x.1 x.2)) (by kernel_rfl) (load_en (bx_range (hX5.below hX5.lt hF.bel))) ?_
         exact ⟨b0, b1, b2, b3, b4, true, b6, b7, b8, b9, b10, b11, b12, x49, x53, x55, x56, x60, rfl, rfl, hF, hA, ⟨hD.a, hD.b, hD.c, hD.d⟩⟩
        ·obtain rfl : b6 = false := ready_self hr
         obtain rfl : b5 = true := ready_dep hr 5 (by kernel_rfl)
         refine st_build rfl (by kernel_rfl) (some 55) rfl 22 1 #[(0, .tmp 54)] rfl #[(0, .agg (enA x.1 x.2))] (by kernel_rfl) (.slice (some ⟨V.heap.size, 0, none⟩) 1 1) _ (build_ee x V) ?_
         exact ⟨b0, b1, b2, b3, b4, true, true, b7, b8, b9, b10, b11, b12, x49, x53, _, x56, x60, rfl, rfl, hF.key, hA, ⟨hD.a, hD.b, hD.c, hD.d⟩⟩
        ·obtain rfl : b7 = false := ready_self hr
         obtain rfl : b4 = true := ready_dep hr 4 (by kernel_rfl)
         obtain rfl : b6 = true := ready_dep hr 6 (by kernel_rfl)
         obtain rfl : b11 = false := by cases b11; rfl; exact absurd (hF.c3 rfl) (by decide)
         have hO := hF.r1 rfl rfl
         obtain ⟨gq, rfl, hgx, -⟩ := hF.kx rfl
         have hgc := ens_of hgx
         obtain ⟨v, V2, hap, hO2, hb2, hg2, hat2⟩ := hO.app hF.bel.size (some ⟨gq, 0, none⟩) 1 1 [x] hgc rfl (by rw [HTL.out]; have := HYL.out; have := HN.out; omega) (by omega)
         refine st_append rfl (by kernel_rfl) (some 56) rfl 22 rfl (.tmp 53) (.tmp 55) 22 rfl x53 (.slice (some ⟨gq, 0, none⟩) 1 1) v V2 (by kernel_rfl) (by kernel_rfl) hap ?_
         exact ⟨b0, b1, b2, b3, true, b5, true, true, b8, b9, b10, false, b12, x49, x53, _, v, x60, rfl, rfl, hF.two hO2 hb2 hg2 hat2, hA, ⟨hD.a, hD.b, hD.c, hD.d⟩⟩
        ·obtain rfl : b8 = false := ready_self hr
         obtain rfl : b12 = false := by cases b12; rfl; exact absurd (hD.c (hD.d (hA rfl))) (by decide)
         refine st_val rfl (by kernel_rfl) (some 57) rfl (.slice (some ⟨bz, oz, none⟩) m c9) V (by kernel_rfl) ?_
         exact ⟨b0, b1, b2, b3, b4, b5, b6, b7, true, b9, b10, b11, false, x49, x53, x55, x56, x60, rfl, rfl, hF, hA, ⟨hD.a, hD.b, fun _ => rfl, hD.d⟩⟩
        ·obtain rfl : b9 = false := ready_self hr
         refine st_val rfl (by kernel_rfl) (some 58) rfl (.int .i64 k) V (by kernel_rfl) ?_
         exact ⟨b0, b1, b2, b3, b4, b5, b6, b7, b8, true, b10, b11, b12, x49, x53, x55, x56, x60, rfl, rfl, hF, hA, ⟨hD.a, hD.b, hD.c, hD.d⟩⟩
        ·obtain rfl : b10 = false := ready_self hr
         obtain rfl : b8 = true := ready_dep hr 8 (by kernel_rfl)
         obtain rfl : b9 = true := ready_dep hr 9 (by kernel_rfl)
         refine st_slice_from rfl (by kernel_rfl) (some 59) rfl 22 (.tmp 57) (.tmp 58) rfl (.slice (some ⟨bz, oz, none⟩) m c9) (.int .i64 ((k : Nat) : Int)) (.slice (fromS 41 (some ⟨bz, oz, none⟩) c9 k) (m - k) (c9 - k)) (by kernel_rfl) (by kernel_rfl) (cut_ee_from (some ⟨bz, oz, none⟩) m c9 (k) V (by omega)) ?_
         exact ⟨b0, b1, b2, b3, b4, b5, b6, b7, true, true, true, b11, b12, x49, x53, x55, x56, x60, rfl, rfl, hF, hA, ⟨hD.a, hD.b, fun _ => rfl, fun _ => rfl⟩⟩
        ·obtain rfl : b11 = false := ready_self hr
         obtain rfl : b7 = true := ready_dep hr 7 (by kernel_rfl)
         obtain rfl : b10 = true := ready_dep hr 10 (by kernel_rfl)
         obtain rfl : b12 = false := by cases b12; rfl; exact absurd (hA rfl) (by decide)
         have hO := hF.r2 rfl rfl
         obtain ⟨v, V2, hap, hO2, hb2, hg2, hat2⟩ := hO.app hF.bel.size (fromS 41 (some ⟨bz, oz, none⟩) c9 k) (m - k) (c9 - k) (Y.drop k) (by rw [← ens_drop]; exact (HO9.out _ hF.bel).from 41 c9 k (by rw [ens_len, HM.out]; omega)) HDL.out (by rw [List.length_append, HTL.out]; simp; have := HYL.out; have := HN.out; omega) (by have := HYL.out; have := HN.out; omega)
         refine st_append rfl (by kernel_rfl) (some 60) rfl 22 rfl (.tmp 56) (.tmp 59) 22 rfl x56 (.slice (fromS 41 (some ⟨bz, oz, none⟩) c9 k) (m - k) (c9 - k)) v V2 (by kernel_rfl) (by kernel_rfl) hap ?_
         exact ⟨b0, b1, b2, b3, b4, b5, b6, true, b8, b9, true, true, false, x49, x53, x55, x56, v, rfl, rfl, hF.three hO2 hb2 hg2 hat2, fun h => (by cases h), ⟨hD.a, hD.b, hD.c, fun _ => rfl⟩⟩
        ·obtain rfl : b12 = false := ready_self hr
         obtain rfl : b11 = true := ready_dep hr 11 (by kernel_rfl)
         refine st_val rfl (by kernel_rfl) (some 3) rfl (x60) V (by kernel_rfl) ?_
         exact ⟨b0, b1, b2, b3, b4, b5, b6, b7, b8, b9, b10, true, true, x49, x53, x55, x56, x60, rfl, rfl, hF, fun _ => rfl, ⟨hD.a, hD.b, hD.c, hD.d⟩⟩
       ·intro act9 V hJ
        obtain ⟨b0, b1, b2, b3, b4, b5, b6, b7, b8, b9, b10, b11, b12, x49, x53, x55, x56, x60, he, rfl, hF, hA, hD⟩ := hJ
        have he : (#[true, true, true, true, true, true, true, true, true, true, true, true, true] : Array Bool) = #[b0, b1, b2, b3, b4, b5, b6, b7, b8, b9, b10, b11, b12] := he
        simp only [Array.mk.injEq, List.cons.injEq, and_true] at he
        obtain ⟨rfl, rfl, rfl, rfl, rfl, rfl, rfl, rfl, rfl, rfl, rfl, rfl, rfl⟩ := he
        simp only [cond_true]
        have hO := hF.r3 rfl
        have HE : Hid (Y.take k ++ [x] ++ Y.drop k = ordX (X.take (i + 1)) ∧ (Y.take k ++ [x] ++ Y.drop k).length ≤ i + 1 ∧ Rowee V w.heap.size x60 (Y.take k ++ [x] ++ Y.drop k) ∧ Below w.heap.size w V) := Lib.hid ⟨by rw [HXI.out, ← HY.out]; exact HK.out.symm, by rw [List.length_append, List.length_append, HTL.out, HDL.out]; have := HYL.out; simp; omega, own_base hO HB9.out.size, HB9.out.trans (hF.bel.mono HB9.out.size)⟩
        clear hF h0 hO hX5
        go_upto_region 9 with fail
        refine wl <| gzv (.int .i64 (i + 1 : Nat)) (add_one rfl i (by have := HN.out; omega) (by kernel_rfl) _) <| gz1 (.int .i64 (i + 1 : Nat)) <| wn ?_
        simp only [pu]
        go_wp2_with fail
        go_roundg (n - (i + 1))
        case measure => have := HGK.out; omega
        case rel => exact ⟨i + 1, _, _, rfl, rfl, by omega, by omega, HE⟩
    ·skip
     go_upto_region 6 with fail
     refine wp_region_class (C := fun U => Below wr.heap.size wr U) (by kernel_rfl) (by kernel_rfl) ((Below.refl _ wr).drew) ?_
     refine gy (.int .i64 k) <| gy (.slice a9 m c9) <| gy (.int .i64 m) <| gyv (.bool false) (fun U hU => lss_n rfl (k : Int) m dF (by kernel_rfl) (by kernel_rfl) U) <| gy (.bool false) <| gyn <| gyn <| gyn <| gyn <| gyn <| gyn <| gyn <| gyn <| gyn <| gyn <| gyn <| gyn <| gyn <| gyn <| gyn <| gyn <|
       gyn <| gyn <| gyn <| gyn <| gyn <| gyn <| gyn <| gyn <| gyn <| gyn <| gyn <| gyn <| gy (.bool false) ?_
     simp only [pu]
     apply wpQuiet_nil
     intro V6 hV6
     have HW2 : Hid (Below V2.heap.size V2 V6 ∧ ∀ j, j < k → bfP (Y.getD j zEA).1 x.1 = true) := Lib.hid ⟨HW.out.1.trans (hV6.mono HW.out.1.size), HW.out.2⟩
     have hX6 := hX5.below hX5.lt hV6
     clear hV6 HW hX5
     have HW := HW2
     have hX5 := hX6
     clear hX6
     generalize V6 = wr at *
     clear HW2
     have HK : Hid (insX Y x = Y.take k ++ [x] ++ Y.drop k) := Lib.hid (by
      rw [insX_at Y x k (by rw [HM.out]; exact hkm) HW.out.2 (fun h => absurd h (by rw [HM.out]; exact hk0)), List.append_assoc]
      rfl)
     have HTL : Hid ((Y.take k).length = k) := Lib.hid (by rw [List.length_take, HM.out]; omega)
     have HDL : Hid ((Y.drop k).length = m - k) := Lib.hid (by rw [List.length_drop, HM.out])
     have HB9 := Lib.hid (HR2.out.trans (HW.out.1.mono HR2.out.size))
     have HO9 : Hid (∀ U, Below wr.heap.size wr U → Cs U a9 (ens Y)) := Lib.hid fun U hU => by
      obtain ⟨a8, c8, e8, h8, -⟩ := (show Rowee U w.heap.size (.slice a9 m c9) Y from (HO2.out.below HW.out.1).below hU).cs
      simp only [Value.slice.injEq] at e8
      rw [e8.1]
      exact h8
     have hc9 := HC9.out
     have h0 := CH.start wr x (Y.take k) (Y.take k ++ [x]) (Y.take k ++ [x] ++ Y.drop k) u49 u53 u56 u60 u55
     generalize wr = V7 at *
     clear HW HO2 HX5 HGI
     go_upto_region 8 with fail
     refine wp_region_inv (fun listed act9 V => ∃ b0 b1 b2 b3 b4 b5 b6 b7 b8 b9 b10 b11 b12 : Bool, ∃ x49 x53 x55 x56 x60 : Value, listed = #[b0, b1, b2, b3, b4, b5, b6, b7, b8, b9, b10, b11, b12] ∧ act9 = { tmps := #[.slice (some ⟨b, off, none⟩) n c, undef, .slice none 0 0, (cond b12 (x60) (.slice a9 m c9)), undef, .pointer (some ⟨g5, 0, none⟩), .int .i64 k, .slice (some ⟨b, off, none⟩) n c, .int .i64 n, .int .i64 i, .bool true, .pointer (some ⟨b, off + i * 41, none⟩), .agg (enA x.1 x.2), .int .i64 k, .slice a9 m c9, .int .i64 m, .bool false, .bool false, undef, undef, undef, undef, undef, undef, undef, undef, undef, undef, undef, undef, undef, undef, undef, undef, undef, undef, undef, undef, undef, undef, undef, undef, undef, undef, undef, undef, .bool false, u47, u48, x49, (cond b1 (.slice a9 m c9) (u50)), (cond b2 (.int .i64 k) (u51)), (cond b3 (.slice a9 k c9) (u52)), x53, (cond b5 (.agg (enA x.1 x.2)) (u54)), x55, x56, (cond b8 (.slice a9 m c9) (u57)), (cond b9 (.int .i64 k) (u58)), (cond b10 (.slice (fromS 41 a9 c9 k) (m - k) (c9 - k)) (u59)), x60, u61, undef], defers := [] } ∧ CH V7 x (Y.take k) (Y.take k ++ [x]) (Y.take k ++ [x] ++ Y.drop k) b0 b4 b7 b11 b6 x49 x53 x56 x60 x55 V ∧ (b12 = true → b11 = true) ∧ OD b1 b3 b4 b8 b10 b11) (by kernel_rfl) (by kernel_rfl) ?_ ?_ ?_
     ·exact ⟨false, false, false, false, false, false, false, false, false, false, false, false, false, u49, u53, u55, u56, u60, rfl, rfl, h0, fun h => (by cases h), OD.z⟩
     ·intro i9 listed act9 V hi9 hr hJ
      obtain ⟨b0, b1, b2, b3, b4, b5, b6, b7, b8, b9, b10, b11, b12, x49, x53, x55, x56, x60, rfl, rfl, hF, hA, hD⟩ := hJ
      have hi2 : i9 < 13 := hi9
      have hi3 : i9 = 0 ∨ i9 = 1 ∨ i9 = 2 ∨ i9 = 3 ∨ i9 = 4 ∨ i9 = 5 ∨ i9 = 6 ∨ i9 = 7 ∨ i9 = 8 ∨ i9 = 9 ∨ i9 = 10 ∨ i9 = 11 ∨ i9 = 12 := by omega
      rcases hi3 with rfl | rfl | rfl | rfl | rfl | rfl | rfl | rfl | rfl | rfl | rfl | rfl | rfl
      ·obtain rfl : b0 = false := ready_self hr
       obtain rfl : b4 = false := by cases b4; rfl; exact absurd (hF.c1 rfl) (by decide)
       obtain rfl : b7 = false := by cases b7; rfl; exact absurd (hF.c2 rfl) (by decide)
       obtain rfl : b11 = false := by cases b11; rfl; exact absurd (hF.c3 rfl) (by decide)
       refine st_build rfl (by kernel_rfl) (some 49) rfl 22 0 #[] rfl #[] (by kernel_rfl) (.slice (some ⟨V.heap.size, 0, none⟩) 0 0) _ (nil_ee V) ?_
       exact ⟨true, b1, b2, b3, false, b5, b6, false, b8, b9, b10, false, b12, _, x53, x55, x56, x60, rfl, rfl, hF.nil, hA, ⟨hD.a, hD.b, hD.c, hD.d⟩⟩
      ·obtain rfl : b1 = false := ready_self hr
       obtain rfl : b12 = false := by cases b12; rfl; exact absurd (hD.a (hD.b (hF.c2 (hF.c3 (hA rfl))))) (by decide)
       refine st_val rfl (by kernel_rfl) (some 50) rfl (.slice a9 m c9) V (by kernel_rfl) ?_
       exact ⟨b0, true, b2, b3, b4, b5, b6, b7, b8, b9, b10, b11, false, x49, x53, x55, x56, x60, rfl, rfl, hF, hA, ⟨fun _ => rfl, hD.b, hD.c, hD.d⟩⟩
      ·obtain rfl : b2 = false := ready_self hr
       refine st_val rfl (by kernel_rfl) (some 51) rfl (.int .i64 k) V (by kernel_rfl) ?_
       exact ⟨b0, b1, true, b3, b4, b5, b6, b7, b8, b9, b10, b11, b12, x49, x53, x55, x56, x60, rfl, rfl, hF, hA, ⟨hD.a, hD.b, hD.c, hD.d⟩⟩
      ·obtain rfl : b3 = false := ready_self hr
       obtain rfl : b1 = true := ready_dep hr 1 (by kernel_rfl)
       obtain rfl : b2 = true := ready_dep hr 2 (by kernel_rfl)
       refine st_slice_to rfl (by kernel_rfl) (some 52) rfl 22 (.tmp 50) (.tmp 51) rfl (.slice a9 m c9) (.int .i64 (k : Int)) (.slice a9 k c9) (by kernel_rfl) (by kernel_rfl) (cut_ee_to a9 m c9 k V (by omega)) ?_
       exact ⟨b0, true, true, true, b4, b5, b6, b7, b8, b9, b10, b11, b12, x49, x53, x55, x56, x60, rfl, rfl, hF, hA, ⟨fun _ => rfl, fun _ => rfl, hD.c, hD.d⟩⟩
      ·obtain rfl : b4 = false := ready_self hr
       obtain rfl : b0 = true := ready_dep hr 0 (by kernel_rfl)
       obtain rfl : b3 = true := ready_dep hr 3 (by kernel_rfl)
       obtain rfl : b7 = false := by cases b7; rfl; exact absurd (hF.c2 rfl) (by decide)
       obtain rfl : b11 = false := by cases b11; rfl; exact absurd (hF.c3 rfl) (by decide)
       have hO := hF.r0 rfl rfl
       obtain ⟨v, V2, hap, hO2, hb2, hg2, hat2⟩ := hO.app hF.bel.size a9 k c9 (Y.take k) (by rw [← ens_take]; exact (HO9.out _ hF.bel).take _) HTL.out (by simp) (by have := HYL.out; have := HN.out; omega)
       refine st_append rfl (by kernel_rfl) (some 53) rfl 22 rfl (.tmp 49) (.tmp 52) 22 rfl x49 (.slice a9 k c9) v V2 (by kernel_rfl) (by kernel_rfl) hap ?_
       exact ⟨true, b1, b2, true, true, b5, b6, false, b8, b9, b10, false, b12, x49, v, x55, x56, x60, rfl, rfl, hF.one (by rw [List.nil_append] at hO2; exact hO2) hb2 hg2 hat2, hA, ⟨hD.a, fun _ => rfl, hD.c, hD.d⟩⟩
      ·obtain rfl : b5 = false := ready_self hr
       refine st_load rfl (by kernel_rfl) (some 54) rfl 50 (.tmp 5) rfl ⟨g5, 0, none⟩ (.agg (enA x.1 x.2)) (by kernel_rfl) (load_en (bx_range (hX5.below hX5.lt hF.bel))) ?_
       exact ⟨b0, b1, b2, b3, b4, true, b6, b7, b8, b9, b10, b11, b12, x49, x53, x55, x56, x60, rfl, rfl, hF, hA, ⟨hD.a, hD.b, hD.c, hD.d⟩⟩
      ·obtain rfl : b6 = false := ready_self hr
       obtain rfl : b5 = true := ready_dep hr 5 (by kernel_rfl)
       refine st_build rfl (by kernel_rfl) (some 55) rfl 22 1 #[(0, .tmp 54)] rfl #[(0, .agg (enA x.1 x.2))] (by kernel_rfl) (.slice (some ⟨V.heap.size, 0, none⟩) 1 1) _ (build_ee x V) ?_
       exact ⟨b0, b1, b2, b3, b4, true, true, b7, b8, b9, b10, b11, b12, x49, x53, _, x56, x60, rfl, rfl, hF.key, hA, ⟨hD.a, hD.b, hD.c, hD.d⟩⟩
      ·obtain rfl : b7 = false := ready_self hr
       obtain rfl : b4 = true := ready_dep hr 4 (by kernel_rfl)
       obtain rfl : b6 = true := ready_dep hr 6 (by kernel_rfl)
       obtain rfl : b11 = false := by cases b11; rfl; exact absurd (hF.c3 rfl) (by decide)
       have hO := hF.r1 rfl rfl
       obtain ⟨gq, rfl, hgx, -⟩ := hF.kx rfl
       have hgc := ens_of hgx
       obtain ⟨v, V2, hap, hO2, hb2, hg2, hat2⟩ := hO.app hF.bel.size (some ⟨gq, 0, none⟩) 1 1 [x] hgc rfl (by rw [HTL.out]; have := HYL.out; have := HN.out; omega) (by omega)
       refine st_append rfl (by kernel_rfl) (some 56) rfl 22 rfl (.tmp 53) (.tmp 55) 22 rfl x53 (.slice (some ⟨gq, 0, none⟩) 1 1) v V2 (by kernel_rfl) (by kernel_rfl) hap ?_
       exact ⟨b0, b1, b2, b3, true, b5, true, true, b8, b9, b10, false, b12, x49, x53, _, v, x60, rfl, rfl, hF.two hO2 hb2 hg2 hat2, hA, ⟨hD.a, hD.b, hD.c, hD.d⟩⟩
      ·obtain rfl : b8 = false := ready_self hr
       obtain rfl : b12 = false := by cases b12; rfl; exact absurd (hD.c (hD.d (hA rfl))) (by decide)
       refine st_val rfl (by kernel_rfl) (some 57) rfl (.slice a9 m c9) V (by kernel_rfl) ?_
       exact ⟨b0, b1, b2, b3, b4, b5, b6, b7, true, b9, b10, b11, false, x49, x53, x55, x56, x60, rfl, rfl, hF, hA, ⟨hD.a, hD.b, fun _ => rfl, hD.d⟩⟩
      ·obtain rfl : b9 = false := ready_self hr
       refine st_val rfl (by kernel_rfl) (some 58) rfl (.int .i64 k) V (by kernel_rfl) ?_
       exact ⟨b0, b1, b2, b3, b4, b5, b6, b7, b8, true, b10, b11, b12, x49, x53, x55, x56, x60, rfl, rfl, hF, hA, ⟨hD.a, hD.b, hD.c, hD.d⟩⟩
      ·obtain rfl : b10 = false := ready_self hr
       obtain rfl : b8 = true := ready_dep hr 8 (by kernel_rfl)
       obtain rfl : b9 = true := ready_dep hr 9 (by kernel_rfl)
       refine st_slice_from rfl (by kernel_rfl) (some 59) rfl 22 (.tmp 57) (.tmp 58) rfl (.slice a9 m c9) (.int .i64 ((k : Nat) : Int)) (.slice (fromS 41 a9 c9 k) (m - k) (c9 - k)) (by kernel_rfl) (by kernel_rfl) (cut_ee_from a9 m c9 (k) V (by omega)) ?_
       exact ⟨b0, b1, b2, b3, b4, b5, b6, b7, true, true, true, b11, b12, x49, x53, x55, x56, x60, rfl, rfl, hF, hA, ⟨hD.a, hD.b, fun _ => rfl, fun _ => rfl⟩⟩
      ·obtain rfl : b11 = false := ready_self hr
       obtain rfl : b7 = true := ready_dep hr 7 (by kernel_rfl)
       obtain rfl : b10 = true := ready_dep hr 10 (by kernel_rfl)
       obtain rfl : b12 = false := by cases b12; rfl; exact absurd (hA rfl) (by decide)
       have hO := hF.r2 rfl rfl
       obtain ⟨v, V2, hap, hO2, hb2, hg2, hat2⟩ := hO.app hF.bel.size (fromS 41 a9 c9 k) (m - k) (c9 - k) (Y.drop k) (by rw [← ens_drop]; exact (HO9.out _ hF.bel).from 41 c9 k (by rw [ens_len, HM.out]; omega)) HDL.out (by rw [List.length_append, HTL.out]; simp; have := HYL.out; have := HN.out; omega) (by have := HYL.out; have := HN.out; omega)
       refine st_append rfl (by kernel_rfl) (some 60) rfl 22 rfl (.tmp 56) (.tmp 59) 22 rfl x56 (.slice (fromS 41 a9 c9 k) (m - k) (c9 - k)) v V2 (by kernel_rfl) (by kernel_rfl) hap ?_
       exact ⟨b0, b1, b2, b3, b4, b5, b6, true, b8, b9, true, true, false, x49, x53, x55, x56, v, rfl, rfl, hF.three hO2 hb2 hg2 hat2, fun h => (by cases h), ⟨hD.a, hD.b, hD.c, fun _ => rfl⟩⟩
      ·obtain rfl : b12 = false := ready_self hr
       obtain rfl : b11 = true := ready_dep hr 11 (by kernel_rfl)
       refine st_val rfl (by kernel_rfl) (some 3) rfl (x60) V (by kernel_rfl) ?_
       exact ⟨b0, b1, b2, b3, b4, b5, b6, b7, b8, b9, b10, true, true, x49, x53, x55, x56, x60, rfl, rfl, hF, fun _ => rfl, ⟨hD.a, hD.b, hD.c, hD.d⟩⟩
     ·intro act9 V hJ
      obtain ⟨b0, b1, b2, b3, b4, b5, b6, b7, b8, b9, b10, b11, b12, x49, x53, x55, x56, x60, he, rfl, hF, hA, hD⟩ := hJ
      have he : (#[true, true, true, true, true, true, true, true, true, true, true, true, true] : Array Bool) = #[b0, b1, b2, b3, b4, b5, b6, b7, b8, b9, b10, b11, b12] := he
      simp only [Array.mk.injEq, List.cons.injEq, and_true] at he
      obtain ⟨rfl, rfl, rfl, rfl, rfl, rfl, rfl, rfl, rfl, rfl, rfl, rfl, rfl⟩ := he
      simp only [cond_true]
      have hO := hF.r3 rfl
      have HE : Hid (Y.take k ++ [x] ++ Y.drop k = ordX (X.take (i + 1)) ∧ (Y.take k ++ [x] ++ Y.drop k).length ≤ i + 1 ∧ Rowee V w.heap.size x60 (Y.take k ++ [x] ++ Y.drop k) ∧ Below w.heap.size w V) := Lib.hid ⟨by rw [HXI.out, ← HY.out]; exact HK.out.symm, by rw [List.length_append, List.length_append, HTL.out, HDL.out]; have := HYL.out; simp; omega, own_base hO HB9.out.size, HB9.out.trans (hF.bel.mono HB9.out.size)⟩
      clear hF h0 hO hX5
      go_upto_region 9 with fail
      refine wl <| gzv (.int .i64 (i + 1 : Nat)) (add_one rfl i (by have := HN.out; omega) (by kernel_rfl) _) <| gz1 (.int .i64 (i + 1 : Nat)) <| wn ?_
      simp only [pu]
      go_wp2_with fail
      go_roundg (n - (i + 1))
      case measure => have := HGK.out; omega
      case rel => exact ⟨i + 1, _, _, rfl, rfl, by omega, by omega, HE⟩
  ·skip
   obtain rfl : i = n := by omega
   go_upto_region 3 with fail
   refine wl <| gzb (lss_n rfl (i) (i) dF) <| wn ?_
   simp only [pu]
   have hY := HR.out.1
   rw [List.take_of_length_le (by have := HXN.out; omega)] at hY
   have h9 := HR.out.2.2.1
   rw [HM.out, hY] at h9
   have HE := Lib.hid (HNEW.out wr _ HR.out.2.2.2 h9)
   clear HR hY h9 HNEW
   go_upto_region 10 with fail
   refine wl <| gz2 (.slice a9 m c9) (.slice a9 m c9) <| wn ?_
   simp only [pu]
   go_wp2_with fail
   go_ret
   exact HE.out
end Go.Proofs.Ytgkckblcekbafaa
