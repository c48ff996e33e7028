/-
 Merging two sorted parts of the row: contract.
-/
import Derived.Test.YtgkckblcekbafaaVI
namespace Go.Proofs.Ytgkckblcekbafaa
attribute [local irreducible] wpList wpQuiet
open Go.RowKit
set_option maxRecDepth 100000
set_option linter.unusedSimpArgs false
set_option linter.unusedVariables false

theorem shr_q {ρ : Operand → Value} {o : Oper} {x y : Operand} (ho : o.op = .binOp .shr 81 x y 81) (a q : Nat) (hq : a / 2 = q) (h : a < 4611686018427387904) (hx : ρ x = .int .u64 a) (hy : ρ y = .int .u64 1) (w : World) : (execOp ρ o).run Try.prog w = .ok (.value (.int .u64 (q : Int))) w := by
 subst hq
 exact shr_1 ho a h hx hy w
/-- A function without results that returns early. -/
theorem ret_none {P : Program} {fn : Func} {R : Ending → World → Prop} {a : Act} {w : World} (h : fn.results = #[]) (hd : a.defers = []) (hR : R (.returned (.tuple #[])) w) : bodyPost P fn R .ret a w := bodyPost_ret (v := .tuple #[]) (results_none h _ _ _) hd hR
set_option maxRecDepth 100000 in
set_option maxHeartbeats 8000000 in
theorem q_sym1 {w0 w : World} {B g n c bs : Nat} {P A E S : List Tg} (h : SW w0 B g n c bs (P ++ (A ++ (E ++ S))) w) (hn : n < 1152921504606846976) (hA : A.Pairwise T3) (hE : E.Pairwise T3) (ht : Lt2 A E) (a m b : Nat) (ha : a = P.length) (hm : m = a + A.length) (hb : b = m + E.length) (h1A : A.length = 1) (h1E : 0 < E.length) : Calls Try.prog 51 #[.agg (lsA bs g n c), .int .i64 a, .int .i64 m, .int .i64 b] w fun e w' => e = .returned (.tuple #[]) ∧ ∃ C, Srt (A ++ E) C ∧ SW w0 B g n c bs (P ++ (C ++ S)) w' := by
 have hle := h.len
 simp only [List.length_append] at hle
 obtain ⟨L, hL⟩ : ∃ L, P ++ (A ++ (E ++ S)) = L := ⟨_, rfl⟩
 have hgA : ∀ q, a ≤ q → q < m → L.getD q zT = A.getD (q - a) zT := fun q h1 h2 => by
  have := gA P A (E ++ S) (q - a) (by omega)
  rwa [hL, show P.length + (q - a) = q by omega] at this
 have hgE : ∀ q, m ≤ q → q < b → L.getD q zT = E.getD (q - m) zT := fun q h1 h2 => by
  have := gB P A E S (q - m) (by omega)
  rwa [hL, show P.length + A.length + (q - m) = q by omega] at this
 have HGA := Lib.hid hgA
 have HGE := Lib.hid hgE
 have HLL := Lib.hid hL
 have HN : Hid (n < 1152921504606846976 ∧ b ≤ n ∧ a < m ∧ m < b ∧ P.length = a ∧ A.length = m - a ∧ E.length = b - m) := Lib.hid ⟨hn, by omega, by omega, by omega, by omega, by omega, by omega⟩
 have HA := Lib.hid hA
 have HE := Lib.hid hE
 have HT := Lib.hid ht
 obtain ⟨x, hx⟩ : ∃ x, A.getD 0 zT = x := ⟨_, rfl⟩
 have HX : Hid (A = [x]) := Lib.hid (by
  match A, h1A with
  | [y], _ => rw [← hx]; rfl)
 have H1 : Hid (m = a + 1) := Lib.hid (by omega)
 have HMO : Hid (∀ t t', t < t' → t' < b - m → lsT (E.getD t' zT) x = true → lsT (E.getD t zT) x = true) := Lib.hid fun t t' h2 h3 h4 => t3_ls (pw_at hE h2 (by omega)) h4
 rw [hL] at h
 clear hx hn hL hle ha hm hb hA hE ht hgA hgE h1A h1E
 go_enter Try.func51, Try.ntmps51
 go_upto_region 1 with fail
 change Code.wp _ _ _ _ (w.alloc (.cells (lsA bs g n c) 78))
 have hX4 : Bx (w.alloc (.cells (lsA bs g n c) 78)) w.heap.size (lsA bs g n c) 78 := heap_alloc_last w _
 have hA := h.alloc (.cells (lsA bs g n c) 78)
 have hgl := h.gl
 clear h
 generalize w.alloc (.cells (lsA bs g n c) 78) = W1 at *
 obtain ⟨g4, hg4⟩ : ∃ q, w.heap.size = q := ⟨_, rfl⟩
 rw [hg4] at hX4 hgl
 simp only [hg4]
 have HON : Hid (∀ U L', SW W1 B g n c bs L' U → SW w0 B g n c bs L' U) := Lib.hid fun U L' hU => hU.on hA.but
 have HLS : Hid (∀ U L', SW W1 B g n c bs L' U → Bx U g4 (lsA bs g n c) 78) := Lib.hid fun U L' hU => hU.box hX4 (by omega)
 have HS0 : Hid (SW W1 B g n c bs L W1) := Lib.hid hA.rebase
 clear hX4 hA hgl hg4
 refine wl <| gz2 (.int .i64 m) (.int .i64 a) <| gzw (.int .i64 ((m - a : Nat) : Int)) (sub_nn rfl (m) (a) (by have := HN.out; omega) (by have := HN.out; omega)) <|
  gzb (eql_n rfl (((m - a : Nat) : Int)) (1) (decide_eq_true (by have := H1.out; omega))) <| wn ?_
 simp only [pu]
 go_upto_region 2 with fail
 refine wl <| gz2 (.int .i64 m) (.int .i64 m) <| wn ?_
 simp only [pu]
 go_upto_region 3 with fail
 refine wl <| gz2 (.int .i64 b) (.int .i64 b) <| wn ?_
 simp only [pu]
 go_wp2_with fail
 go_loopg [8, 9] (b - m) (fun gg s8 s9 wx => ∃ (i j : Nat), s8 = .int .i64 i ∧ s9 = .int .i64 j ∧ gg = j - i ∧ Hid (m ≤ i ∧ i ≤ j ∧ j ≤ b) ∧ Hid (SW W1 B g n c bs L wx) ∧ Hid ((∀ t, t < i - m → lsT (E.getD t zT) x = true) ∧ ∀ t, j - m ≤ t → t < b - m → lsT (E.getD t zT) x = false))
 case atStart => exact ⟨m, b, rfl, rfl, rfl, Lib.hid (by have := HN.out; omega), HS0, Lib.hid ⟨fun t h => by omega, fun t h1 h2 => by omega⟩⟩
 case round =>
  obtain ⟨i, j, rfl, rfl, hg, HI, HS, HF⟩ := hrel
  clear HS0
  have HGK : Hid (gk = j - i) := Lib.hid hg
  clear hg
  by_cases hlt : i < j
  ·skip
   obtain ⟨hh, hhh⟩ : ∃ q, (i + j) / 2 = q := ⟨_, rfl⟩
   have HH := Lib.hid hhh
   have HHB : Hid (hh < 1152921504606846976 ∧ i ≤ hh ∧ hh < j ∧ hh < n ∧ a < n) := Lib.hid (by have := HI.out; have := HN.out; omega)
   have hless := q_less HS.out (i := hh) (j := a) (by have := HHB.out; omega) (by have := HHB.out; omega)
   rw [HGE.out hh (by have := HHB.out; have := HI.out; omega) (by have := HHB.out; have := HI.out; omega), HGA.out a (Nat.le_refl _) (by have := HN.out; omega), Nat.sub_self, show A.getD 0 zT = x by rw [HX.out]; rfl] at hless
   clear hhh
   go_upto_region 4 with fail
   refine wl <| gz2 (.int .i64 i) (.int .i64 j) <| gzb (lss_n rfl (i) (j) dT) <| wn ?_
   simp only [pu]
   go_upto_region 5 with fail
   refine wl <| gz2 (.int .i64 i) (.int .i64 j) <| gzw (.int .i64 ((i + j : Nat) : Int)) (add_nn rfl (i) (j) (by have := HI.out; have := HN.out; omega)) <|
    gzv (.int .u64 ((i + j : Nat) : Int)) (cv_iu rfl (i + j) (by have := HI.out; have := HN.out; omega) (by kernel_rfl) _) <| gzw (.int .u64 (hh : Int)) (shr_q rfl (i + j) hh HH.out (by have := HI.out; have := HN.out; omega)) <|
    gzv (.int .i64 hh) (cv_ui rfl hh (by have := HHB.out; omega) (by kernel_rfl) _) <| gz1 (.int .i64 hh) <| wn ?_
   simp only [pu]
   cases hl : lsT (E.getD (hh - m) zT) x with
   | true =>
    rw [hl] at hless
    go_upto_region 6 with fail
    refine wl <| gz1 (.pointer (some ⟨g4, 0, none⟩)) <| gzl rfl ⟨g4, 0, none⟩ (lsV bs) (rg_cell (bx_range (cs := [lsV bs, swV g n c]) (HLS.out _ _ HS.out)) (j := 0) rfl (by kernel_rfl)) <| gz2 (.int .i64 hh) (.int .i64 a) <|
     gzc (.bool true) (fun w' => Below wr.heap.size wr w') (hless) (fun V2 hV2 => ?_)
    simp only [pu]
    apply wpList_nil
    have HS2 := Lib.hid (HS.out.below hV2)
    clear hV2 hless HS
    have HF2 : Hid ((∀ t, t < hh + 1 - m → lsT (E.getD t zT) x = true) ∧ ∀ t, j - m ≤ t → t < b - m → lsT (E.getD t zT) x = false) := Lib.hid ⟨fun t h => by
     rcases Nat.lt_or_ge t (hh - m) with h1 | h1
     ·exact HMO.out t (hh - m) h1 (by have := HHB.out; have := HI.out; omega) hl
     ·obtain rfl : t = hh - m := by have := HHB.out; have := HI.out; omega
      exact hl, HF.out.2⟩
    go_upto_region 7 with fail
    refine wl <| gz1 (.int .i64 hh) <| gzw (.int .i64 (hh + 1 : Nat)) (add_nn rfl hh 1 (by have := HHB.out; omega)) <| gz1 (.int .i64 (hh + 1 : Nat)) <| wn ?_
    simp only [pu]
    go_wp2_with fail
    go_roundg (j - (hh + 1))
    case measure => have := HGK.out; have := HHB.out; omega
    case rel => exact ⟨hh + 1, j, rfl, rfl, rfl, Lib.hid (by have := HHB.out; have := HI.out; omega), HS2, HF2⟩
   | false =>
    rw [hl] at hless
    go_upto_region 6 with fail
    refine wl <| gz1 (.pointer (some ⟨g4, 0, none⟩)) <| gzl rfl ⟨g4, 0, none⟩ (lsV bs) (rg_cell (bx_range (cs := [lsV bs, swV g n c]) (HLS.out _ _ HS.out)) (j := 0) rfl (by kernel_rfl)) <| gz2 (.int .i64 hh) (.int .i64 a) <|
     gzc (.bool false) (fun w' => Below wr.heap.size wr w') (hless) (fun V2 hV2 => ?_)
    simp only [pu]
    apply wpList_nil
    have HS2 := Lib.hid (HS.out.below hV2)
    clear hV2 hless HS
    have HF2 : Hid ((∀ t, t < i - m → lsT (E.getD t zT) x = true) ∧ ∀ t, hh - m ≤ t → t < b - m → lsT (E.getD t zT) x = false) := Lib.hid ⟨HF.out.1, fun t h h2 => by
     cases hq : lsT (E.getD t zT) x with
     | false => rfl
     | true =>
      rcases Nat.lt_or_ge (hh - m) t with h1 | h1
      ·rw [HMO.out (hh - m) t h1 h2 hq] at hl; cases hl
      ·obtain rfl : t = hh - m := by omega
       rw [hl] at hq; cases hq⟩
    go_upto_region 8 with fail
    refine wl <| gz2 (.int .i64 hh) (.int .i64 hh) <| wn ?_
    simp only [pu]
    go_wp2_with fail
    go_roundg (hh - i)
    case measure => have := HGK.out; have := HHB.out; omega
    case rel => exact ⟨i, hh, rfl, rfl, rfl, Lib.hid (by have := HHB.out; have := HI.out; omega), HS2, HF2⟩
  ·skip
   obtain rfl : j = i := by have := HI.out; omega
   go_upto_region 4 with fail
   refine wl <| gz2 (.int .i64 j) (.int .i64 j) <| gzb (lss_n rfl (j) (j) dF) <| wn ?_
   simp only [pu]
   go_upto_region 9 with fail
   refine wl <| gz2 (.int .i64 a) (.int .i64 a) <| wn ?_
   simp only [pu]
   obtain ⟨wR, rfl⟩ : ∃ wR, wR = wr := ⟨_, rfl⟩
   clear HGK
   go_wp2_with fail
   go_loopg [11] (j - m) (fun gg s11 wx => ∃ (y : Nat), s11 = .int .i64 (a + y : Nat) ∧ y ≤ j - m ∧ gg + y = j - m ∧ Hid (SW W1 B g n c bs (mvR L a y) wx))
   case atStart => exact ⟨0, rfl, by omega, by omega, HS⟩
   case round =>
    obtain ⟨y, rfl, hy, hg, HR⟩ := hrel
    have HGK : Hid (gk + y = j - m) := Lib.hid hg
    clear hg HS
    by_cases hlt2 : y < j - m
    ·skip
     obtain ⟨V2, hrun, hS2⟩ := HR.out.swap (i := a + y) (j := a + y + 1) (by have := HI.out; have := HN.out; omega) (by have := HI.out; have := HN.out; omega)
     have HR2 : Hid (SW W1 B g n c bs (mvR L a (y + 1)) V2) := Lib.hid hS2
     clear hS2
     go_upto_region 10 with fail
     refine wl <| gz2 (.int .i64 ((a + y : Nat) : Int)) (.int .i64 j) <| gzw (.int .i64 ((j - 1 : Nat) : Int)) (sub_nn rfl j 1 (by have := HI.out; have := HN.out; omega) (by have := HI.out; have := HN.out; omega)) <|
      gzb (lss_n rfl (((a + y : Nat) : Int)) (((j - 1 : Nat) : Int)) (decide_eq_true (by have := H1.out; omega))) <| wn ?_
     simp only [pu]
     go_upto_region 12 with fail
     refine wl <| gz1 (.pointer (some ⟨g4, 1, none⟩)) <| gzl rfl ⟨g4, 1, none⟩ (swV g n c) (rg_cell (bx_range (cs := [lsV bs, swV g n c]) (HLS.out _ _ HR.out)) (j := 1) rfl (by kernel_rfl)) <| gz2 (.int .i64 ((a + y : Nat) : Int)) (.int .i64 ((a + y : Nat) : Int)) <|
      gzw (.int .i64 ((a + y + 1 : Nat) : Int)) (add_nn rfl (a + y) 1 (by have := HI.out; have := HN.out; omega)) ?_
     simp only [pu]
     refine run_to rfl (some 58) rfl (.tuple #[]) V2 (swap_op rfl (by kernel_rfl) (by kernel_rfl) (by kernel_rfl) hrun) ?_
     simp only [pu]
     apply wpList_nil
     clear hrun HR
     go_upto_region 11 with fail
     refine wl <| gz1 (.int .i64 ((a + y : Nat) : Int)) <| gzw (.int .i64 ((a + y + 1 : Nat) : Int)) (add_nn rfl (a + y) 1 (by have := HI.out; have := HN.out; omega)) <| gz1 (.int .i64 ((a + y + 1 : Nat) : Int)) <| wn ?_
     simp only [pu]
     go_wp2_with fail
     go_roundg (j - m - (y + 1))
     case measure => have := HGK.out; omega
     case rel => exact ⟨y + 1, rfl, by omega, by omega, HR2⟩
    ·skip
     obtain rfl : y = j - m := by omega
     go_upto_region 10 with fail
     refine wl <| gz2 (.int .i64 ((a + (j - m) : Nat) : Int)) (.int .i64 j) <| gzw (.int .i64 ((j - 1 : Nat) : Int)) (sub_nn rfl j 1 (by have := HI.out; have := HN.out; omega) (by have := HI.out; have := HN.out; omega)) <|
      gzb (lss_n rfl (((a + (j - m) : Nat) : Int)) (((j - 1 : Nat) : Int)) (decide_eq_false (by have := H1.out; omega))) <| wn ?_
     simp only [pu]
     have HEE : Hid (∃ C, Srt (A ++ E) C ∧ SW w0 B g n c bs (P ++ (C ++ S)) wr) := Lib.hid (by
      obtain ⟨C, h1, h2⟩ := one_l P E S x HE.out (by have := HT.out; rwa [HX.out] at this) (j - m) (by have := HN.out; have := HI.out; omega) HF.out.1 (fun t h1 h2 => HF.out.2 t h1 (by have := HN.out; omega))
      refine ⟨C, by rw [HX.out]; exact h1, HON.out _ _ ?_⟩
      rw [← h2, HN.out.2.2.2.2.1, ← HX.out, HLL.out]
      exact HR.out)
     go_wp2_with fail
     exact ret_none rfl rfl ⟨rfl, HEE.out⟩
set_option maxRecDepth 100000 in
set_option maxHeartbeats 8000000 in
theorem q_sym2 {w0 w : World} {B g n c bs : Nat} {P A E S : List Tg} (h : SW w0 B g n c bs (P ++ (A ++ (E ++ S))) w) (hn : n < 1152921504606846976) (hA : A.Pairwise T3) (hE : E.Pairwise T3) (ht : Lt2 A E) (a m b : Nat) (ha : a = P.length) (hm : m = a + A.length) (hb : b = m + E.length) (h1A : 1 < A.length) (h1E : E.length = 1) : Calls Try.prog 51 #[.agg (lsA bs g n c), .int .i64 a, .int .i64 m, .int .i64 b] w fun e w' => e = .returned (.tuple #[]) ∧ ∃ C, Srt (A ++ E) C ∧ SW w0 B g n c bs (P ++ (C ++ S)) w' := by
 have hle := h.len
 simp only [List.length_append] at hle
 obtain ⟨L, hL⟩ : ∃ L, P ++ (A ++ (E ++ S)) = L := ⟨_, rfl⟩
 have hgA : ∀ q, a ≤ q → q < m → L.getD q zT = A.getD (q - a) zT := fun q h1 h2 => by
  have := gA P A (E ++ S) (q - a) (by omega)
  rwa [hL, show P.length + (q - a) = q by omega] at this
 have hgE : ∀ q, m ≤ q → q < b → L.getD q zT = E.getD (q - m) zT := fun q h1 h2 => by
  have := gB P A E S (q - m) (by omega)
  rwa [hL, show P.length + A.length + (q - m) = q by omega] at this
 have HGA := Lib.hid hgA
 have HGE := Lib.hid hgE
 have HLL := Lib.hid hL
 have HN : Hid (n < 1152921504606846976 ∧ b ≤ n ∧ a < m ∧ m < b ∧ P.length = a ∧ A.length = m - a ∧ E.length = b - m) := Lib.hid ⟨hn, by omega, by omega, by omega, by omega, by omega, by omega⟩
 have HA := Lib.hid hA
 have HE := Lib.hid hE
 have HT := Lib.hid ht
 obtain ⟨x, hx⟩ : ∃ x, E.getD 0 zT = x := ⟨_, rfl⟩
 have HX : Hid (E = [x]) := Lib.hid (by
  match E, h1E with
  | [y], _ => rw [← hx]; rfl)
 have H1 : Hid (b = m + 1 ∧ a + 1 < m) := Lib.hid (by omega)
 have HMO : Hid (∀ t t', t < t' → t' < m - a → lsT x (A.getD t zT) = true → lsT x (A.getD t' zT) = true) := Lib.hid fun t t' h2 h3 h4 => ls_t3' h4 (pw_at hA h2 (by omega))
 rw [hL] at h
 clear hx hn hL hle ha hm hb hA hE ht hgA hgE h1A h1E
 go_enter Try.func51, Try.ntmps51
 go_upto_region 1 with fail
 change Code.wp _ _ _ _ (w.alloc (.cells (lsA bs g n c) 78))
 have hX4 : Bx (w.alloc (.cells (lsA bs g n c) 78)) w.heap.size (lsA bs g n c) 78 := heap_alloc_last w _
 have hA := h.alloc (.cells (lsA bs g n c) 78)
 have hgl := h.gl
 clear h
 generalize w.alloc (.cells (lsA bs g n c) 78) = W1 at *
 obtain ⟨g4, hg4⟩ : ∃ q, w.heap.size = q := ⟨_, rfl⟩
 rw [hg4] at hX4 hgl
 simp only [hg4]
 have HON : Hid (∀ U L', SW W1 B g n c bs L' U → SW w0 B g n c bs L' U) := Lib.hid fun U L' hU => hU.on hA.but
 have HLS : Hid (∀ U L', SW W1 B g n c bs L' U → Bx U g4 (lsA bs g n c) 78) := Lib.hid fun U L' hU => hU.box hX4 (by omega)
 have HS0 : Hid (SW W1 B g n c bs L W1) := Lib.hid hA.rebase
 clear hX4 hA hgl hg4
 refine wl <| gz2 (.int .i64 m) (.int .i64 a) <| gzw (.int .i64 ((m - a : Nat) : Int)) (sub_nn rfl (m) (a) (by have := HN.out; omega) (by have := HN.out; omega)) <|
  gzb (eql_n rfl (((m - a : Nat) : Int)) (1) (decide_eq_false (by have := H1.out; omega))) <| wn ?_
 simp only [pu]
 go_upto_region 13 with fail
 refine wl <| gz2 (.int .i64 b) (.int .i64 m) <| gzw (.int .i64 ((b - m : Nat) : Int)) (sub_nn rfl (b) (m) (by have := HN.out; omega) (by have := HN.out; omega)) <|
  gzb (eql_n rfl (((b - m : Nat) : Int)) (1) (decide_eq_true (by have := H1.out; omega))) <| wn ?_
 simp only [pu]
 go_upto_region 14 with fail
 refine wl <| gz2 (.int .i64 a) (.int .i64 a) <| wn ?_
 simp only [pu]
 go_upto_region 15 with fail
 refine wl <| gz2 (.int .i64 m) (.int .i64 m) <| wn ?_
 simp only [pu]
 go_wp2_with fail
 go_loopg [12, 13] (m - a) (fun gg s12 s13 wx => ∃ (i j : Nat), s12 = .int .i64 i ∧ s13 = .int .i64 j ∧ gg = j - i ∧ Hid (a ≤ i ∧ i ≤ j ∧ j ≤ m) ∧ Hid (SW W1 B g n c bs L wx) ∧ Hid ((∀ t, t < i - a → lsT x (A.getD t zT) = false) ∧ ∀ t, j - a ≤ t → t < m - a → lsT x (A.getD t zT) = true))
 case atStart => exact ⟨a, m, rfl, rfl, rfl, Lib.hid (by have := HN.out; omega), HS0, Lib.hid ⟨fun t h => by omega, fun t h1 h2 => by omega⟩⟩
 case round =>
  obtain ⟨i, j, rfl, rfl, hg, HI, HS, HF⟩ := hrel
  clear HS0
  have HGK : Hid (gk = j - i) := Lib.hid hg
  clear hg
  by_cases hlt : i < j
  ·skip
   obtain ⟨hh, hhh⟩ : ∃ q, (i + j) / 2 = q := ⟨_, rfl⟩
   have HH := Lib.hid hhh
   have HHB : Hid (hh < 1152921504606846976 ∧ i ≤ hh ∧ hh < j ∧ hh < n ∧ m < n) := Lib.hid (by have := HI.out; have := HN.out; omega)
   have hless := q_less HS.out (i := m) (j := hh) (by have := HHB.out; omega) (by have := HHB.out; omega)
   rw [HGA.out hh (by have := HHB.out; have := HI.out; omega) (by have := HHB.out; have := HI.out; omega), HGE.out m (Nat.le_refl _) (by have := HN.out; omega), Nat.sub_self, show E.getD 0 zT = x by rw [HX.out]; rfl] at hless
   clear hhh
   go_upto_region 16 with fail
   refine wl <| gz2 (.int .i64 i) (.int .i64 j) <| gzb (lss_n rfl (i) (j) dT) <| wn ?_
   simp only [pu]
   go_upto_region 17 with fail
   refine wl <| gz2 (.int .i64 i) (.int .i64 j) <| gzw (.int .i64 ((i + j : Nat) : Int)) (add_nn rfl (i) (j) (by have := HI.out; have := HN.out; omega)) <|
    gzv (.int .u64 ((i + j : Nat) : Int)) (cv_iu rfl (i + j) (by have := HI.out; have := HN.out; omega) (by kernel_rfl) _) <| gzw (.int .u64 (hh : Int)) (shr_q rfl (i + j) hh HH.out (by have := HI.out; have := HN.out; omega)) <|
    gzv (.int .i64 hh) (cv_ui rfl hh (by have := HHB.out; omega) (by kernel_rfl) _) <| gz1 (.int .i64 hh) <| wn ?_
   simp only [pu]
   cases hl : lsT x (A.getD (hh - a) zT) with
   | true =>
    rw [hl] at hless
    go_upto_region 18 with fail
    refine wl <| gz1 (.pointer (some ⟨g4, 0, none⟩)) <| gzl rfl ⟨g4, 0, none⟩ (lsV bs) (rg_cell (bx_range (cs := [lsV bs, swV g n c]) (HLS.out _ _ HS.out)) (j := 0) rfl (by kernel_rfl)) <| gz2 (.int .i64 m) (.int .i64 hh) <|
     gzc (.bool true) (fun w' => Below wr.heap.size wr w') (hless) (fun V2 hV2 => ?_)
    simp only [pu]
    refine gz1 (.bool false) <| wn ?_
    simp only [pu]
    have HS2 := Lib.hid (HS.out.below hV2)
    clear hV2 hless HS
    have HF2 : Hid ((∀ t, t < i - a → lsT x (A.getD t zT) = false) ∧ ∀ t, hh - a ≤ t → t < m - a → lsT x (A.getD t zT) = true) := Lib.hid ⟨HF.out.1, fun t h h2 => by
     rcases Nat.lt_or_ge (hh - a) t with h1 | h1
     ·exact HMO.out (hh - a) t h1 h2 hl
     ·obtain rfl : t = hh - a := by omega
      exact hl⟩
    go_upto_region 20 with fail
    refine wl <| gz2 (.int .i64 hh) (.int .i64 hh) <| wn ?_
    simp only [pu]
    go_wp2_with fail
    go_roundg (hh - i)
    case measure => have := HGK.out; have := HHB.out; omega
    case rel => exact ⟨i, hh, rfl, rfl, rfl, Lib.hid (by have := HHB.out; have := HI.out; omega), HS2, HF2⟩
   | false =>
    rw [hl] at hless
    go_upto_region 18 with fail
    refine wl <| gz1 (.pointer (some ⟨g4, 0, none⟩)) <| gzl rfl ⟨g4, 0, none⟩ (lsV bs) (rg_cell (bx_range (cs := [lsV bs, swV g n c]) (HLS.out _ _ HS.out)) (j := 0) rfl (by kernel_rfl)) <| gz2 (.int .i64 m) (.int .i64 hh) <|
     gzc (.bool false) (fun w' => Below wr.heap.size wr w') (hless) (fun V2 hV2 => ?_)
    simp only [pu]
    refine gz1 (.bool true) <| wn ?_
    simp only [pu]
    have HS2 := Lib.hid (HS.out.below hV2)
    clear hV2 hless HS
    have HF2 : Hid ((∀ t, t < hh + 1 - a → lsT x (A.getD t zT) = false) ∧ ∀ t, j - a ≤ t → t < m - a → lsT x (A.getD t zT) = true) := Lib.hid ⟨fun t h => by
     cases hq : lsT x (A.getD t zT) with
     | false => rfl
     | true =>
      rcases Nat.lt_or_ge t (hh - a) with h1 | h1
      ·exact absurd (hl.symm.trans (HMO.out t (hh - a) h1 (by have := HHB.out; have := HI.out; omega) hq)) (by decide)
      ·obtain rfl : t = hh - a := by have := HHB.out; have := HI.out; omega
       exact absurd (hl.symm.trans hq) (by decide), HF.out.2⟩
    go_upto_region 19 with fail
    refine wl <| gz1 (.int .i64 hh) <| gzw (.int .i64 (hh + 1 : Nat)) (add_nn rfl hh 1 (by have := HHB.out; omega)) <| gz1 (.int .i64 (hh + 1 : Nat)) <| wn ?_
    simp only [pu]
    go_wp2_with fail
    go_roundg (j - (hh + 1))
    case measure => have := HGK.out; have := HHB.out; omega
    case rel => exact ⟨hh + 1, j, rfl, rfl, rfl, Lib.hid (by have := HHB.out; have := HI.out; omega), HS2, HF2⟩
  ·skip
   obtain rfl : j = i := by have := HI.out; omega
   go_upto_region 16 with fail
   refine wl <| gz2 (.int .i64 j) (.int .i64 j) <| gzb (lss_n rfl (j) (j) dF) <| wn ?_
   simp only [pu]
   go_upto_region 21 with fail
   refine wl <| gz2 (.int .i64 m) (.int .i64 m) <| wn ?_
   simp only [pu]
   obtain ⟨wR, rfl⟩ : ∃ wR, wR = wr := ⟨_, rfl⟩
   clear HGK
   go_wp2_with fail
   go_loopg [15] (m - j) (fun gg s15 wx => ∃ (y : Nat), s15 = .int .i64 (m - y : Nat) ∧ y ≤ m - j ∧ gg + y = m - j ∧ Hid (SW W1 B g n c bs (mvL L m y) wx))
   case atStart => exact ⟨0, rfl, by omega, by omega, HS⟩
   case round =>
    obtain ⟨y, rfl, hy, hg, HR⟩ := hrel
    have HGK : Hid (gk + y = m - j) := Lib.hid hg
    clear hg HS
    by_cases hlt2 : y < m - j
    ·skip
     obtain ⟨V2, hrun, hS2⟩ := HR.out.swap (i := m - y) (j := m - y - 1) (by have := HI.out; have := HN.out; omega) (by have := HI.out; have := HN.out; omega)
     have HR2 : Hid (SW W1 B g n c bs (mvL L m (y + 1)) V2) := Lib.hid hS2
     clear hS2
     go_upto_region 22 with fail
     refine wl <| gz2 (.int .i64 ((m - y : Nat) : Int)) (.int .i64 j) <| gzb (gtr_n rfl (((m - y : Nat) : Int)) (j) dT) <| wn ?_
     simp only [pu]
     go_upto_region 24 with fail
     refine wl <| gz1 (.pointer (some ⟨g4, 1, none⟩)) <| gzl rfl ⟨g4, 1, none⟩ (swV g n c) (rg_cell (bx_range (cs := [lsV bs, swV g n c]) (HLS.out _ _ HR.out)) (j := 1) rfl (by kernel_rfl)) <| gz2 (.int .i64 ((m - y : Nat) : Int)) (.int .i64 ((m - y : Nat) : Int)) <|
      gzw (.int .i64 ((m - y - 1 : Nat) : Int)) (sub_nn rfl (m - y) 1 (by omega) (by have := HI.out; have := HN.out; omega)) ?_
     simp only [pu]
     refine run_to rfl (some 94) rfl (.tuple #[]) V2 (swap_op rfl (by kernel_rfl) (by kernel_rfl) (by kernel_rfl) hrun) ?_
     simp only [pu]
     apply wpList_nil
     clear hrun HR
     go_upto_region 23 with fail
     refine wl <| gz1 (.int .i64 ((m - y : Nat) : Int)) <| gzw (.int .i64 ((m - y - 1 : Nat) : Int)) (sub_nn rfl (m - y) 1 (by omega) (by have := HI.out; have := HN.out; omega)) <| gz1 (.int .i64 ((m - y - 1 : Nat) : Int)) <| wn ?_
     simp only [pu]
     go_wp2_with fail
     go_roundg (m - j - (y + 1))
     case measure => have := HGK.out; omega
     case rel => exact ⟨y + 1, by rw [Nat.sub_sub], by omega, by omega, HR2⟩
    ·skip
     obtain rfl : y = m - j := by omega
     go_upto_region 22 with fail
     refine wl <| gz2 (.int .i64 ((m - (m - j) : Nat) : Int)) (.int .i64 j) <| gzb (gtr_n rfl (((m - (m - j) : Nat) : Int)) (j) (decide_eq_false (by have := HI.out; omega))) <| wn ?_
     simp only [pu]
     have HEE : Hid (∃ C, Srt (A ++ E) C ∧ SW w0 B g n c bs (P ++ (C ++ S)) wr) := Lib.hid (by
      obtain ⟨C, h1, h2⟩ := one_r P A S x HA.out (by have := HT.out; rwa [HX.out] at this) (j - a) (by have := HN.out; have := HI.out; omega) HF.out.1 (fun t h1 h2 => HF.out.2 t h1 (by have := HN.out; omega))
      refine ⟨C, by rw [HX.out]; exact h1, HON.out _ _ ?_⟩
      rw [← h2, show P.length + A.length = m by have := HN.out; omega, show A.length - (j - a) = m - j by have := HN.out; have := HI.out; omega, ← HX.out, HLL.out]
      exact HR.out)
     go_wp2_with fail
     exact ret_none rfl rfl ⟨rfl, HEE.out⟩
end Go.Proofs.Ytgkckblcekbafaa
