/-
 The stable sort of the row: contract.
-/
import Derived.Test.YtgkckblcekbafaaVZ
namespace Go.Proofs.Ytgkckblcekbafaa
open Go.RowKit
set_option maxRecDepth 100000
set_option linter.unusedSimpArgs false
set_option linter.unusedVariables false

theorem lt_in {L A E X Y : List Tg} (h : L.Pairwise fun a b => a.2 < b.2) (e : L = X ++ (A ++ (E ++ Y))) : Lt2 A E := fun x hx y hy => by
 rw [e] at h
 have h1 := (List.pairwise_append.1 h).2.1
 exact (List.pairwise_append.1 h1).2.2 x hx y (List.mem_append_left _ hy)
theorem inc_in {L A X Y : List Tg} (h : L.Pairwise fun a b => a.2 < b.2) (e : L = X ++ (A ++ Y)) : A.Pairwise fun a b => a.2 < b.2 := by
 rw [e] at h
 exact (List.pairwise_append.1 (List.pairwise_append.1 h).2.1).1
set_option maxRecDepth 100000 in
set_option maxHeartbeats 8000000 in
theorem q_stab {w0 w : World} {B g n c bs : Nat} {L : List Tg} (h : SW w0 B g n c bs L w) (hn : n < 1000000000000000) (ht : L.Pairwise fun a b => a.2 < b.2) : Calls Try.prog 37 #[.agg (lsA bs g n c), .int .i64 n] w fun e w' => e = .returned (.tuple #[]) ∧ ∃ C, Srt L C ∧ SW w0 B g n c bs C w' := by
 have HN : Hid (n < 1000000000000000 ∧ L.length = n) := Lib.hid ⟨hn, h.len⟩
 have HT := Lib.hid ht
 have HSY : Hid _ := Lib.hid (fun (w0 w : World) (P A E S : List Tg) => @q_sym B g n c bs (by omega) n w0 w P A E S)
 clear hn ht
 go_enter Try.func37, Try.ntmps37
 go_upto_region 1 with fail
 change Code.wp _ _ _ _ (w.alloc (.cells (lsA bs g n c) 78))
 have hX4 : Bx (w.alloc (.cells (lsA bs g n c) 78)) w.heap.size (lsA bs g n c) 78 := heap_alloc_last w _
 have hA := h.alloc (.cells (lsA bs g n c) 78)
 have hgl := h.gl
 clear h
 generalize w.alloc (.cells (lsA bs g n c) 78) = W1 at *
 obtain ⟨g4, hg4⟩ : ∃ q, w.heap.size = q := ⟨_, rfl⟩
 rw [hg4] at hX4 hgl
 simp only [hg4]
 have HON : Hid (∀ U L', SW W1 B g n c bs L' U → SW w0 B g n c bs L' U) := Lib.hid fun U L' hU => hU.on hA.but
 have HLS : Hid (∀ U L', SW W1 B g n c bs L' U → Bx U g4 (lsA bs g n c) 78) := Lib.hid fun U L' hU => hU.box hX4 (by omega)
 have HS0 : Hid (SW W1 B g n c bs L W1) := Lib.hid hA.rebase
 clear hX4 hA hgl hg4
 refine wl <| gz1 (.int .i64 20) <| wn ?_
 simp only [pu]
 go_upto_region 2 with fail
 refine wl <| gz3 (.int .i64 20) (.int .i64 0) (.int .i64 20) <| wn ?_
 simp only [pu]
 go_wp2_with fail
 go_loopg [5, 6] n (fun gg s5 s6 wx => ∃ (a : Nat), s5 = .int .i64 a ∧ s6 = .int .i64 (a + 20 : Nat) ∧ gg = n - a ∧ a ≤ n ∧ Hid (∃ X Y D : List Tg, L = X ++ Y ∧ X.length = a ∧ Pre 20 X D ∧ SW W1 B g n c bs (D ++ Y) wx))
 case atStart => exact ⟨0, rfl, rfl, rfl, by omega, Lib.hid ⟨[], L, [], rfl, rfl, .nil _, HS0.out⟩⟩
 case round =>
  obtain ⟨a, rfl, rfl, hg, han, HR⟩ := hrel
  clear HS0
  obtain ⟨X, Y, D, hL, hX, hP, hS⟩ := HR.out
  have hyl : Y.length = n - a := by have h1 := HN.out.2; rw [hL, List.length_append] at h1; omega
  have HL := Lib.hid hL
  have HX : Hid (X.length = a ∧ Y.length = n - a ∧ D.length = a) := Lib.hid ⟨hX, hyl, by rw [hP.1, hX]⟩
  have HP := Lib.hid hP
  have HS := Lib.hid hS
  have HGK : Hid (gk = n - a) := Lib.hid hg
  clear HR hL hX hP hS hg hyl
  by_cases hlt : a + 20 ≤ n
  ·skip
   obtain ⟨A, Y', hY, hAl⟩ : ∃ A Y', Y = A ++ Y' ∧ A.length = 20 := ⟨Y.take 20, Y.drop 20, (List.take_append_drop ..).symm, by rw [List.length_take]; have := HX.out; omega⟩
   have HY := Lib.hid hY
   have HAL := Lib.hid hAl
   clear hY hAl
   go_upto_region 3 with fail
   refine wl <| gz2 (.int .i64 ((a + 20 : Nat) : Int)) (.int .i64 n) <| gzb (leq_n rfl (((a + 20 : Nat) : Int)) (n) dT) <| wn ?_
   simp only [pu]
   go_upto_region 4 with fail
   refine wl <| gzl rfl ⟨g4, 0, none⟩ (.agg (lsA bs g n c)) (load_ls (HLS.out _ _ HS.out)) <| gz2 (.int .i64 a) (.int .i64 ((a + 20 : Nat) : Int)) <|
    gzc (.tuple #[]) (fun w' => SW W1 B g n c bs (inO a (a + 20 - (a + 1)) (a + 1) (D ++ Y)) w') (q_ins HS.out (by have := HN.out; omega) a (a + 20) (by omega) (by omega)) (fun V2 hV2 => ?_)
   simp only [pu]
   apply wpList_nil
   have HR2 : Hid (∃ X Y D : List Tg, L = X ++ Y ∧ X.length = a + 20 ∧ Pre 20 X D ∧ SW W1 B g n c bs (D ++ Y) V2) := Lib.hid (by
    obtain ⟨C, h1, h2⟩ := in_sort D A Y' (inc_in (Y := Y') HT.out (by rw [HL.out, HY.out]))
    rw [HAL.out, HX.out.2.2, ← HY.out] at h2
    rw [show a + 20 - (a + 1) = 20 - 1 by omega, h2] at hV2
    exact ⟨X ++ A, Y', D ++ C, by rw [HL.out, HY.out, List.append_assoc], by rw [List.length_append, HX.out.1, HAL.out], HP.out.snoc HAL.out h1, by rw [List.append_assoc]; exact hV2⟩)
   clear hV2 HS
   go_upto_region 5 with fail
   refine wl <| gz2 (.int .i64 ((a + 20 : Nat) : Int)) (.int .i64 ((a + 20 : Nat) : Int)) <| wn ?_
   simp only [pu]
   go_upto_region 6 with fail
   refine wl <| gz2 (.int .i64 ((a + 20 : Nat) : Int)) (.int .i64 20) <| gzw (.int .i64 ((a + 20 + 20 : Nat) : Int)) (add_nn rfl (a + 20) (20) (by have := HN.out; omega)) <| gz1 (.int .i64 ((a + 20 + 20 : Nat) : Int)) <| wn ?_
   simp only [pu]
   go_wp2_with fail
   go_roundg (n - (a + 20))
   case measure => have := HGK.out; omega
   case rel => exact ⟨a + 20, rfl, rfl, rfl, by omega, HR2⟩
  ·skip
   go_upto_region 3 with fail
   refine wl <| gz2 (.int .i64 ((a + 20 : Nat) : Int)) (.int .i64 n) <| gzb (leq_n rfl (((a + 20 : Nat) : Int)) (n) dF) <| wn ?_
   simp only [pu]
   go_upto_region 7 with fail
   refine wl <| gzl rfl ⟨g4, 0, none⟩ (.agg (lsA bs g n c)) (load_ls (HLS.out _ _ HS.out)) <| gz2 (.int .i64 a) (.int .i64 n) <| gzc (.tuple #[]) (fun w' => SW W1 B g n c bs (inO a (n - (a + 1)) (a + 1) (D ++ Y)) w') (q_ins HS.out (by have := HN.out; omega) a n (Nat.le_refl _) han) (fun V2 hV2 => ?_)
   simp only [pu]
   apply wpList_nil
   have HR2 : Hid (∃ M : List Tg, Bk 20 L M ∧ SW W1 B g n c bs M V2) := Lib.hid (by
    obtain ⟨C, h1, h2⟩ := in_sort D Y [] (inc_in (Y := []) HT.out (by rw [HL.out, List.append_nil]))
    rw [List.append_nil, List.append_nil, HX.out.2.1, HX.out.2.2] at h2
    rw [show n - (a + 1) = n - a - 1 by omega, h2] at hV2
    exact ⟨D ++ C, by rw [HL.out]; exact HP.out.fin (by have := HX.out; omega) h1, hV2⟩)
   obtain ⟨V2', hV2'⟩ : ∃ V, V2 = V := ⟨_, rfl⟩
   clear hV2 HS HX HL HP HGK hV2'
   go_wp2_with fail
   go_loopg [4] (n - 20) (fun gg s4 wx => ∃ (s : Nat), s4 = .int .i64 s ∧ gg = n - s ∧ Hid (0 < s ∧ s < 2000000000000000) ∧ Hid (∃ M : List Tg, Bk s L M ∧ SW W1 B g n c bs M wx))
   case atStart => exact ⟨20, rfl, rfl, Lib.hid (by omega), HR2⟩
   case round =>
    obtain ⟨s, rfl, hg, HB, HR⟩ := hrel
    clear HR2
    have HGO : Hid (gk = n - s) := Lib.hid hg
    obtain ⟨M, hM, hS⟩ := HR.out
    have HM := Lib.hid hM
    have HS := Lib.hid hS
    clear hg HR hM hS
    obtain ⟨wR, rfl⟩ : ∃ wR, wR = wr := ⟨_, rfl⟩
    by_cases hsn : s < n
    ·skip
     go_upto_region 8 with fail
     refine wl <| gz2 (.int .i64 s) (.int .i64 n) <| gzb (lss_n rfl (s) (n) dT) <| wn ?_
     simp only [pu]
     go_upto_region 9 with fail
     refine wl <| gz1 (.int .i64 s) <| gzw (.int .i64 ((2 * s : Nat) : Int)) (mul_nn rfl 2 s (by have := HB.out; omega)) <| gz2 (.int .i64 0) (.int .i64 ((2 * s : Nat) : Int)) <| wn ?_
     simp only [pu]
     go_wp2_with fail
     go_loopg [5, 6] n (fun gg s5 s6 wx => ∃ (a : Nat), s5 = .int .i64 a ∧ s6 = .int .i64 (a + 2 * s : Nat) ∧ gg = n - a ∧ a ≤ n ∧ Hid (∃ X Y D R : List Tg, L = X ++ Y ∧ X.length = a ∧ Pre (2 * s) X D ∧ Bk s Y R ∧ SW W1 B g n c bs (D ++ R) wx))
     case atStart => exact ⟨0, rfl, by rw [Nat.zero_add], rfl, by omega, Lib.hid ⟨[], L, [], M, rfl, rfl, .nil _, HM.out, HS.out⟩⟩
     case round =>
      obtain ⟨a, rfl, rfl, hg, han2, HR⟩ := hrel
      clear HS HM
      obtain ⟨X, Y, D, R, hL, hX, hP, hK, hS⟩ := HR.out
      have hyl : Y.length = n - a := by have h1 := HN.out.2; rw [hL, List.length_append] at h1; omega
      have HL := Lib.hid hL
      have HX : Hid (X.length = a ∧ Y.length = n - a ∧ D.length = a) := Lib.hid ⟨hX, hyl, by rw [hP.1, hX]⟩
      have HP := Lib.hid hP
      have HK := Lib.hid hK
      have HS := Lib.hid hS
      have HGK : Hid (gk = n - a) := Lib.hid hg
      clear HR hL hX hP hS hg hyl hK
      by_cases hlt : a + 2 * s ≤ n
      ·skip
       obtain ⟨A1, A2, Y', B1, B2, R', hY, hR, h1, h2, h3, h4, h5⟩ := HK.out.two (by have := HX.out; omega)
       have HY := Lib.hid hY
       have HZ := Lib.hid (⟨h1, h2, h3, h4, h5⟩ : _ ∧ _ ∧ _ ∧ _ ∧ _)
       have HS5 : Hid (SW W1 B g n c bs (D ++ (B1 ++ (B2 ++ R'))) wr) := Lib.hid (by rw [← hR]; exact HS.out)
       have HBL : Hid (B1.length = s ∧ B2.length = s) := Lib.hid ⟨by rw [h3.len, h1], by rw [h4.len, h2]⟩
       clear hY hR h1 h2 h3 h4 h5 HS
       go_upto_region 10 with fail
       refine wl <| gz2 (.int .i64 ((a + 2 * s : Nat) : Int)) (.int .i64 n) <| gzb (leq_n rfl (((a + 2 * s : Nat) : Int)) (n) dT) <| wn ?_
       simp only [pu]
       go_upto_region 11 with fail
       refine wl <| gzl rfl ⟨g4, 0, none⟩ (.agg (lsA bs g n c)) (load_ls (HLS.out _ _ HS5.out)) <| gz3 (.int .i64 a) (.int .i64 a) (.int .i64 s) <|
        gzw (.int .i64 ((a + s : Nat) : Int)) (add_nn rfl (a) (s) (by have := HN.out; have := HB.out; omega)) <| gz1 (.int .i64 ((a + 2 * s : Nat) : Int)) <|
        gzc (.tuple #[]) (fun w' => ∃ C, Srt (B1 ++ B2) C ∧ SW W1 B g n c bs (D ++ (C ++ R')) w') (HSY.out _ _ _ _ _ _ (by have := HBL.out; omega) HS5.out HZ.out.2.2.1.2 HZ.out.2.2.2.1.2 (lt_two HZ.out.2.2.1 HZ.out.2.2.2.1 (lt_in (Y := Y') HT.out (by rw [HL.out, HY.out]))) (by have := HBL.out; have := HB.out; omega) (by have := HBL.out; have := HB.out; omega) a (a + s) (a + 2 * s) HX.out.2.2.symm (by rw [HBL.out.1]) (by rw [HBL.out.2]; omega)) (fun V3 hV3 => ?_)
       simp only [pu]
       apply wpList_nil
       have HR3 : Hid (∃ X Y D R : List Tg, L = X ++ Y ∧ X.length = a + 2 * s ∧ Pre (2 * s) X D ∧ Bk s Y R ∧ SW W1 B g n c bs (D ++ R) V3) := Lib.hid (by
        obtain ⟨C, h6, h7⟩ := hV3
        exact ⟨X ++ (A1 ++ A2), Y', D ++ C, R', by rw [HL.out, HY.out, List.append_assoc, List.append_assoc], by rw [List.length_append, List.length_append, HX.out.1, HZ.out.1, HZ.out.2.1]; omega, HP.out.snoc (by rw [List.length_append, HZ.out.1, HZ.out.2.1]; omega) (srt_two HZ.out.2.2.1 HZ.out.2.2.2.1 h6), HZ.out.2.2.2.2, by rw [List.append_assoc]; exact h7⟩)
       clear hV3 HS5
       go_upto_region 12 with fail
       refine wl <| gz2 (.int .i64 ((a + 2 * s : Nat) : Int)) (.int .i64 ((a + 2 * s : Nat) : Int)) <| wn ?_
       simp only [pu]
       go_upto_region 13 with fail
       refine wl <| gz2 (.int .i64 ((a + 2 * s : Nat) : Int)) (.int .i64 s) <| gzw (.int .i64 ((2 * s : Nat) : Int)) (mul_nn rfl 2 s (by have := HB.out; omega)) <|
        gzw (.int .i64 ((a + 2 * s + 2 * s : Nat) : Int)) (add_nn rfl (a + 2 * s) (2 * s) (by have := HN.out; have := HB.out; omega)) <| gz1 (.int .i64 ((a + 2 * s + 2 * s : Nat) : Int)) <| wn ?_
       simp only [pu]
       go_wp2_with fail
       go_roundg (n - (a + 2 * s))
       case measure => have := HGK.out; have := HB.out; omega
       case rel => exact ⟨a + 2 * s, rfl, rfl, rfl, by omega, HR3⟩
      ·skip
       go_upto_region 10 with fail
       refine wl <| gz2 (.int .i64 ((a + 2 * s : Nat) : Int)) (.int .i64 n) <| gzb (leq_n rfl (((a + 2 * s : Nat) : Int)) (n) dF) <| wn ?_
       simp only [pu]
       go_upto_region 14 with fail
       refine wl <| gz2 (.int .i64 a) (.int .i64 s) <| gzw (.int .i64 ((a + s : Nat) : Int)) (add_nn rfl (a) (s) (by have := HN.out; have := HB.out; omega)) <| gz1 (.int .i64 ((a + s : Nat) : Int)) <| wn ?_
       simp only [pu]
       by_cases hm : a + s < n
       ·skip
        go_upto_region 15 with fail
        refine wl <| gz2 (.int .i64 ((a + s : Nat) : Int)) (.int .i64 n) <| gzb (lss_n rfl (((a + s : Nat) : Int)) (n) dT) <| wn ?_
        simp only [pu]
        obtain ⟨A1, B1, Y', R', hY, hR, h1, h2, h3⟩ := HK.out.one (by have := HX.out; omega)
        have hyl : Y'.length = n - a - s := by have h0 := HX.out.2.1; rw [hY, List.length_append] at h0; omega
        have h4 := h3.fin (by omega) HB.out.1
        have HY := Lib.hid hY
        have HZ := Lib.hid (⟨h1, h2, h4⟩ : _ ∧ _ ∧ _)
        have HS5 : Hid (SW W1 B g n c bs (D ++ (B1 ++ (R' ++ []))) wr) := Lib.hid (by rw [List.append_nil, ← hR]; exact HS.out)
        have HBL : Hid (B1.length = s ∧ R'.length = n - a - s) := Lib.hid ⟨by rw [h2.len, h1], by rw [h4.len, hyl]⟩
        clear hY hR h1 h2 h3 h4 hyl HS
        go_upto_region 16 with fail
        refine wl <| gzl rfl ⟨g4, 0, none⟩ (.agg (lsA bs g n c)) (load_ls (HLS.out _ _ HS5.out)) <| gz3 (.int .i64 a) (.int .i64 ((a + s : Nat) : Int)) (.int .i64 n) <|
         gzc (.tuple #[]) (fun w' => ∃ C, Srt (B1 ++ R') C ∧ SW W1 B g n c bs (D ++ (C ++ [])) w') (HSY.out _ _ _ _ _ _ (by have := HBL.out; omega) HS5.out HZ.out.2.1.2 HZ.out.2.2.2 (lt_two HZ.out.2.1 HZ.out.2.2 (lt_in (Y := []) HT.out (by rw [HL.out, HY.out, List.append_nil]))) (by have := HBL.out; have := HB.out; omega) (by have := HBL.out; omega) a (a + s) n HX.out.2.2.symm (by rw [HBL.out.1]) (by rw [HBL.out.2]; omega)) (fun V3 hV3 => ?_)
        simp only [pu]
        apply wpList_nil
        have HR3 : Hid (∃ M : List Tg, Bk (s * 2) L M ∧ SW W1 B g n c bs M V3) := Lib.hid (by
         obtain ⟨C, h6, h7⟩ := hV3
         rw [List.append_nil] at h7
         refine ⟨D ++ C, ?_, h7⟩
         rw [Nat.mul_comm, HL.out]
         exact HP.out.fin (by have := HX.out; omega) (by rw [HY.out]; exact srt_two HZ.out.2.1 HZ.out.2.2 h6))
        clear hV3 HS5
        go_upto_region 17 with fail
        refine wl <| gz1 (.int .i64 s) <| gzw (.int .i64 ((s * 2 : Nat) : Int)) (mul_nn rfl s 2 (by have := HB.out; omega)) <| gz1 (.int .i64 ((s * 2 : Nat) : Int)) <| wn ?_
        simp only [pu]
        go_wp2_with fail
        go_roundg (n - s * 2)
        case measure => have := HGO.out; have := HB.out; omega
        case rel => exact ⟨s * 2, rfl, rfl, Lib.hid (by have := HB.out; have := HN.out; omega), HR3⟩
       ·skip
        go_upto_region 15 with fail
        refine wl <| gz2 (.int .i64 ((a + s : Nat) : Int)) (.int .i64 n) <| gzb (lss_n rfl (((a + s : Nat) : Int)) (n) dF) <| wn ?_
        simp only [pu]
        have HR3 : Hid (∃ M : List Tg, Bk (s * 2) L M ∧ SW W1 B g n c bs M wr) := Lib.hid (by
         refine ⟨D ++ R, ?_, HS.out⟩
         rw [Nat.mul_comm, HL.out]
         exact HP.out.fin (by have := HX.out; omega) (HK.out.fin (by have := HX.out; omega) HB.out.1))
        clear HS
        go_upto_region 17 with fail
        refine wl <| gz1 (.int .i64 s) <| gzw (.int .i64 ((s * 2 : Nat) : Int)) (mul_nn rfl s 2 (by have := HB.out; omega)) <| gz1 (.int .i64 ((s * 2 : Nat) : Int)) <| wn ?_
        simp only [pu]
        go_wp2_with fail
        go_roundg (n - s * 2)
        case measure => have := HGO.out; have := HB.out; omega
        case rel => exact ⟨s * 2, rfl, rfl, Lib.hid (by have := HB.out; have := HN.out; omega), HR3⟩
    ·skip
     go_upto_region 8 with fail
     refine wl <| gz2 (.int .i64 s) (.int .i64 n) <| gzb (lss_n rfl (s) (n) dF) <| wn ?_
     simp only [pu]
     have HEE : Hid (∃ C, Srt L C ∧ SW w0 B g n c bs C wR) := Lib.hid ⟨M, HM.out.fin (by have := HN.out; omega) HB.out.1, HON.out _ _ HS.out⟩
     go_wp2_with fail
     go_end0
     exact ⟨rfl, HEE.out⟩
end Go.Proofs.Ytgkckblcekbafaa
