/-
 A rotation of a part of the row: contract.
-/
import Derived.Test.YtgkckblcekbafaaVR
namespace Go.Proofs.Ytgkckblcekbafaa
open Go.RowKit
set_option maxRecDepth 100000
set_option linter.unusedSimpArgs false
set_option linter.unusedVariables false

set_option maxRecDepth 100000 in
set_option maxHeartbeats 8000000 in
theorem q_rot {w0 w : World} {B g n c bs : Nat} {P U V S : List Tg} (h : SW w0 B g n c bs (P ++ (U ++ (V ++ S))) w) (hn : n < 1152921504606846976) (hU : 0 < U.length) (hV : 0 < V.length) (a m b : Nat) (ha : a = P.length) (hm : m = a + U.length) (hb : b = m + V.length) : Calls Try.prog 52 #[.agg (lsA bs g n c), .int .i64 a, .int .i64 m, .int .i64 b] w fun e w' => e = .returned (.tuple #[]) ∧ SW w0 B g n c bs (P ++ (V ++ (U ++ S))) w' := by
 have hle := h.len
 simp only [List.length_append] at hle
 have HN : Hid (n < 1152921504606846976 ∧ b ≤ n ∧ a ≤ m ∧ m ≤ b) := Lib.hid ⟨hn, by omega, by omega, by omega⟩
 obtain ⟨T, hT⟩ : ∃ T, P ++ (V ++ (U ++ S)) = T := ⟨_, rfl⟩
 rw [hT]
 obtain ⟨L, hL⟩ : ∃ L, P ++ (U ++ (V ++ S)) = L := ⟨_, rfl⟩
 have HPT : Hid (∃ P' X Y S' : List Tg, X.length = m - a ∧ Y.length = b - m ∧ P'.length + (m - a) = m ∧ T = P' ++ (Y ++ (X ++ S')) ∧ L = P' ++ (X ++ (Y ++ S'))) := Lib.hid ⟨P, U, V, S, by omega, by omega, by omega, hT.symm, hL.symm⟩
 rw [hL] at h
 have HIJ : Hid (0 < m - a ∧ 0 < b - m) := Lib.hid (by omega)
 clear hn hT hL hle ha hm hb hU hV
 go_enter Try.func52, Try.ntmps52
 go_upto_region 1 with fail
 change Code.wp _ _ _ _ (w.alloc (.cells (lsA bs g n c) 78))
 have hX4 : Bx (w.alloc (.cells (lsA bs g n c) 78)) w.heap.size (lsA bs g n c) 78 := heap_alloc_last w _
 have hA := h.alloc (.cells (lsA bs g n c) 78)
 have hgl := h.gl
 clear h
 generalize w.alloc (.cells (lsA bs g n c) 78) = W1 at *
 obtain ⟨g4, hg4⟩ : ∃ q, w.heap.size = q := ⟨_, rfl⟩
 rw [hg4] at hX4 hgl
 simp only [hg4]
 have HON : Hid (∀ U L', SW W1 B g n c bs L' U → SW w0 B g n c bs L' U) := Lib.hid fun U L' hU => hU.on hA.but
 have HLS : Hid (∀ U L', SW W1 B g n c bs L' U → Bx U g4 (lsA bs g n c) 78) := Lib.hid fun U L' hU => hU.box hX4 (by omega)
 have HS0 : Hid (SW W1 B g n c bs L W1) := Lib.hid hA.rebase
 clear hX4 hA hgl hg4
 refine wl <| gz2 (.int .i64 m) (.int .i64 a) <| gzw (.int .i64 ((m - a : Nat) : Int)) (sub_nn rfl (m) (a) (by have := HN.out; omega) (by have := HN.out; omega)) <| gz1 (.int .i64 ((m - a : Nat) : Int)) <| wn ?_
 simp only [pu]
 go_upto_region 2 with fail
 refine wl <| gz2 (.int .i64 b) (.int .i64 m) <| gzw (.int .i64 ((b - m : Nat) : Int)) (sub_nn rfl (b) (m) (by have := HN.out; omega) (by have := HN.out; omega)) <| gz1 (.int .i64 ((b - m : Nat) : Int)) <| wn ?_
 simp only [pu]
 obtain ⟨i0, hi0⟩ : ∃ i, m - a = i := ⟨_, rfl⟩
 obtain ⟨j0, hj0⟩ : ∃ j, b - m = j := ⟨_, rfl⟩
 rw [hi0, hj0] at HIJ HPT
 simp only [hi0, hj0]
 clear hi0 hj0
 go_wp2_with fail
 go_loopg [8, 9] (i0 + j0) (fun gg s8 s9 wx => ∃ (i j : Nat), s8 = .int .i64 i ∧ s9 = .int .i64 j ∧ gg = i + j ∧ Hid (0 < i ∧ 0 < j) ∧ Hid (∃ P' X Y S' : List Tg, X.length = i ∧ Y.length = j ∧ P'.length + i = m ∧ T = P' ++ (Y ++ (X ++ S')) ∧ SW W1 B g n c bs (P' ++ (X ++ (Y ++ S'))) wx))
 case atStart => exact ⟨i0, j0, rfl, rfl, rfl, HIJ, Lib.hid (by obtain ⟨P', X, Y, S', h1, h2, h3, h4, rfl⟩ := HPT.out; exact ⟨P', X, Y, S', h1, h2, h3, h4, HS0.out⟩)⟩
 case round =>
  obtain ⟨i, j, rfl, rfl, hg, HP, HR⟩ := hrel
  clear HS0 HIJ HPT
  obtain ⟨P', X, Y, S', hX, hY, hP, hTT, hS⟩ := HR.out
  clear HR
  have hle := hS.len
  simp only [List.length_append] at hle
  have HB : Hid (i ≤ m ∧ j ≤ n ∧ m + j ≤ n) := Lib.hid (by omega)
  have HX := Lib.hid (⟨hX, hY, hP⟩ : _ ∧ _ ∧ _)
  have HT := Lib.hid hTT
  have HS := Lib.hid hS
  have HGK : Hid (gk = i + j) := Lib.hid hg
  clear hg hle hX hY hP hTT hS
  by_cases hij : i = j
  ·skip
   go_upto_region 3 with fail
   refine wl <| gz2 (.int .i64 i) (.int .i64 j) <| gzb (neq_n rfl (i) (j) (decide_eq_false (fun h => h (by omega)))) <| wn ?_
   simp only [pu]
   go_upto_region 9 with fail
   refine wl <| gzl rfl ⟨g4, 0, none⟩ (.agg (lsA bs g n c)) (load_ls (HLS.out _ _ HS.out)) <| gz2 (.int .i64 m) (.int .i64 i) <|
    gzw (.int .i64 ((m - i : Nat) : Int)) (sub_nn rfl (m) (i) (by have := HN.out; have := HB.out; omega) (by have := HN.out; have := HB.out; omega)) <| gz2 (.int .i64 m) (.int .i64 i) <|
    gzc (.tuple #[]) (fun w' => SW W1 B g n c bs (srN (P' ++ (X ++ (Y ++ S'))) (m - i) m i) w') (q_swr HS.out HN.out.1 (m - i) m i (by have := HB.out; omega) (by have := HB.out; omega)) (fun V2 hV2 => ?_)
   simp only [pu]
   apply wpList_nil
   obtain ⟨hX, hY, hP⟩ := HX.out
   have hq := rot_l P' X Y S' (by omega)
   rw [show P'.length + X.length = m by omega, show P'.length = m - i by omega, show Y.length = i by omega, List.drop_of_length_le (by omega), List.take_of_length_le (by omega), List.nil_append, List.append_assoc, ← HT.out] at hq
   rw [hq] at hV2
   have HE := Lib.hid (HON.out _ _ hV2)
   clear hV2 hq hX hY hP
   go_wp2_with fail
   go_end0
   exact ⟨rfl, HE.out⟩
  ·skip
   go_upto_region 3 with fail
   refine wl <| gz2 (.int .i64 i) (.int .i64 j) <| gzb (neq_n rfl (i) (j) dT) <| wn ?_
   simp only [pu]
   by_cases hlt : j < i
   ·skip
    go_upto_region 4 with fail
    refine wl <| gz2 (.int .i64 i) (.int .i64 j) <| gzb (gtr_n rfl (i) (j) dT) <| wn ?_
    simp only [pu]
    go_upto_region 5 with fail
    refine wl <| gzl rfl ⟨g4, 0, none⟩ (.agg (lsA bs g n c)) (load_ls (HLS.out _ _ HS.out)) <| gz2 (.int .i64 m) (.int .i64 i) <|
     gzw (.int .i64 ((m - i : Nat) : Int)) (sub_nn rfl (m) (i) (by have := HN.out; have := HB.out; omega) (by have := HN.out; have := HB.out; omega)) <| gz2 (.int .i64 m) (.int .i64 j) <|
     gzc (.tuple #[]) (fun w' => SW W1 B g n c bs (srN (P' ++ (X ++ (Y ++ S'))) (m - i) m j) w') (q_swr HS.out HN.out.1 (m - i) m j (by have := HB.out; omega) (by have := HB.out; omega)) (fun V2 hV2 => ?_)
    simp only [pu]
    apply wpList_nil
    have HR2 : Hid (∃ P' X Y S' : List Tg, X.length = i - j ∧ Y.length = j ∧ P'.length + (i - j) = m ∧ T = P' ++ (Y ++ (X ++ S')) ∧ SW W1 B g n c bs (P' ++ (X ++ (Y ++ S'))) V2) := Lib.hid (by
     obtain ⟨hX, hY, hP⟩ := HX.out
     have hq := rot_l P' X Y S' (by omega)
     rw [show P'.length + X.length = m by omega, show P'.length = m - i by omega, hY] at hq
     rw [hq] at hV2
     refine ⟨P' ++ Y, X.drop j, X.take j, S', by rw [List.length_drop]; omega, by rw [List.length_take]; omega, by rw [List.length_append]; omega, ?_, hV2⟩
     rw [HT.out, List.append_assoc, ← List.append_assoc (X.take j), List.take_append_drop])
    clear hV2 HX HT HS
    go_upto_region 6 with fail
    refine wl <| gz2 (.int .i64 i) (.int .i64 j) <| gzw (.int .i64 ((i - j : Nat) : Int)) (sub_nn rfl (i) (j) (by omega) (by have := HN.out; have := HB.out; omega)) <| gz1 (.int .i64 ((i - j : Nat) : Int)) <| wn ?_
    simp only [pu]
    go_wp2_with fail
    go_roundg (i - j + j)
    case measure => have := HGK.out; have := HP.out; omega
    case rel => exact ⟨i - j, j, rfl, rfl, rfl, Lib.hid (by have := HP.out; omega), HR2⟩
   ·skip
    go_upto_region 4 with fail
    refine wl <| gz2 (.int .i64 i) (.int .i64 j) <| gzb (gtr_n rfl (i) (j) dF) <| wn ?_
    simp only [pu]
    go_upto_region 7 with fail
    refine wl <| gzl rfl ⟨g4, 0, none⟩ (.agg (lsA bs g n c)) (load_ls (HLS.out _ _ HS.out)) <| gz2 (.int .i64 m) (.int .i64 i) <|
     gzw (.int .i64 ((m - i : Nat) : Int)) (sub_nn rfl (m) (i) (by have := HN.out; have := HB.out; omega) (by have := HN.out; have := HB.out; omega)) <| gz2 (.int .i64 m) (.int .i64 j) <|
     gzw (.int .i64 ((m + j : Nat) : Int)) (add_nn rfl (m) (j) (by have := HN.out; have := HB.out; omega)) <| gz1 (.int .i64 i) <|
     gzw (.int .i64 ((m + j - i : Nat) : Int)) (sub_nn rfl (m + j) (i) (by have := HN.out; have := HB.out; omega) (by have := HN.out; have := HB.out; omega)) <| gz1 (.int .i64 i) <|
     gzc (.tuple #[]) (fun w' => SW W1 B g n c bs (srN (P' ++ (X ++ (Y ++ S'))) (m - i) (m + j - i) i) w') (q_swr HS.out HN.out.1 (m - i) (m + j - i) i (by have := HB.out; omega) (by have := HB.out; omega)) (fun V2 hV2 => ?_)
    simp only [pu]
    apply wpList_nil
    have HR2 : Hid (∃ P' X Y S' : List Tg, X.length = i ∧ Y.length = j - i ∧ P'.length + i = m ∧ T = P' ++ (Y ++ (X ++ S')) ∧ SW W1 B g n c bs (P' ++ (X ++ (Y ++ S'))) V2) := Lib.hid (by
     obtain ⟨hX, hY, hP⟩ := HX.out
     have hq := rot_r P' X Y S' (by omega)
     rw [show P'.length + Y.length = m + j - i by omega, show P'.length = m - i by omega, hY, hX] at hq
     rw [hq] at hV2
     refine ⟨P', Y.drop (j - i), Y.take (j - i), X ++ S', by rw [List.length_drop]; omega, by rw [List.length_take]; omega, by omega, ?_, hV2⟩
     rw [HT.out, ← List.append_assoc (Y.take _), List.take_append_drop])
    clear hV2 HX HT HS
    go_upto_region 8 with fail
    refine wl <| gz2 (.int .i64 j) (.int .i64 i) <| gzw (.int .i64 ((j - i : Nat) : Int)) (sub_nn rfl (j) (i) (by omega) (by have := HN.out; have := HB.out; omega)) <| gz1 (.int .i64 ((j - i : Nat) : Int)) <| wn ?_
    simp only [pu]
    go_wp2_with fail
    go_roundg (i + (j - i))
    case measure => have := HGK.out; have := HP.out; omega
    case rel => exact ⟨i, j - i, rfl, rfl, rfl, Lib.hid (by have := HP.out; omega), HR2⟩
end Go.Proofs.Ytgkckblcekbafaa
