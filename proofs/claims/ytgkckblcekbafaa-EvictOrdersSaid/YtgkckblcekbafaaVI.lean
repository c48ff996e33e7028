/-
 The insertion sort of a part of the row: contract.
-/
import Derived.Test.YtgkckblcekbafaaVS
namespace Go.Proofs.Ytgkckblcekbafaa
attribute [local irreducible] wpList wpQuiet
open Go.RowKit
set_option maxRecDepth 100000
set_option linter.unusedSimpArgs false
set_option linter.unusedVariables false

theorem inO_go (a b i : Nat) (M : List Tg) (h : i < b) : inO a (b - i) i M = inO a (b - (i + 1)) (i + 1) (inI a i M) := by
 rw [show b - i = (b - (i + 1)) + 1 by omega, inO]
theorem inO_end (a b i : Nat) (M : List Tg) (h : b ≤ i) : inO a (b - i) i M = M := by
 rw [show b - i = 0 by omega, inO]
set_option maxRecDepth 100000 in
set_option maxHeartbeats 8000000 in
theorem q_ins {w0 w : World} {B g n c bs : Nat} {L : List Tg} (h : SW w0 B g n c bs L w) (hn : n < 1152921504606846976) (a b : Nat) (hb : b ≤ n) (ha : a ≤ n) : Calls Try.prog 50 #[.agg (lsA bs g n c), .int .i64 a, .int .i64 b] w fun e w' => e = .returned (.tuple #[]) ∧ SW w0 B g n c bs (inO a (b - (a + 1)) (a + 1) L) w' := by
 have HN : Hid (n < 1152921504606846976 ∧ b ≤ n ∧ a ≤ n) := Lib.hid ⟨hn, hb, ha⟩
 obtain ⟨R, hR⟩ : ∃ R, inO a (b - (a + 1)) (a + 1) L = R := ⟨_, rfl⟩
 rw [hR]
 have HRR := Lib.hid hR
 clear hn hb ha hR
 go_enter Try.func50, Try.ntmps50
 go_upto_region 1 with fail
 change Code.wp _ _ _ _ (w.alloc (.cells (lsA bs g n c) 78))
 have hX4 : Bx (w.alloc (.cells (lsA bs g n c) 78)) w.heap.size (lsA bs g n c) 78 := heap_alloc_last w _
 have hA := h.alloc (.cells (lsA bs g n c) 78)
 have hgl := h.gl
 clear h
 generalize w.alloc (.cells (lsA bs g n c) 78) = W1 at *
 obtain ⟨g4, hg4⟩ : ∃ q, w.heap.size = q := ⟨_, rfl⟩
 rw [hg4] at hX4 hgl
 simp only [hg4]
 have HON : Hid (∀ U L', SW W1 B g n c bs L' U → SW w0 B g n c bs L' U) := Lib.hid fun U L' hU => hU.on hA.but
 have HLS : Hid (∀ U L', SW W1 B g n c bs L' U → Bx U g4 (lsA bs g n c) 78) := Lib.hid fun U L' hU => hU.box hX4 (by omega)
 have HS0 : Hid (SW W1 B g n c bs L W1) := Lib.hid hA.rebase
 clear hX4 hA hgl hg4
 refine wl <| gz1 (.int .i64 a) <| gzw (.int .i64 ((a + 1 : Nat) : Int)) (add_nn rfl a 1 (by have := HN.out; omega)) <| gz1 (.int .i64 ((a + 1 : Nat) : Int)) <| wn ?_
 simp only [pu]
 go_wp2_with fail
 go_loopg [6] (b - (a + 1)) (fun gg s6 wx => ∃ (i : Nat), s6 = .int .i64 i ∧ gg = b - i ∧ Hid (a < i ∧ i ≤ n + 1) ∧ Hid (∃ M : List Tg, inO a (b - i) i M = R ∧ SW W1 B g n c bs M wx))
 case atStart => exact ⟨a + 1, rfl, rfl, Lib.hid (by have := HN.out; omega), Lib.hid ⟨L, HRR.out, HS0.out⟩⟩
 case round =>
  obtain ⟨i, rfl, hg, HI, HR⟩ := hrel
  clear HS0 HRR
  obtain ⟨M, hM, hS⟩ := HR.out
  clear HR
  have HM := Lib.hid hM
  have HS := Lib.hid hS
  have HGK : Hid (gk = b - i) := Lib.hid hg
  clear hg hM hS
  by_cases hlt : i < b
  ·skip
   go_upto_region 2 with fail
   refine wl <| gz2 (.int .i64 i) (.int .i64 b) <| gzb (lss_n rfl (i) (b) dT) <| wn ?_
   simp only [pu]
   go_upto_region 4 with fail
   refine wl <| gz2 (.int .i64 i) (.int .i64 i) <| wn ?_
   simp only [pu]
   obtain ⟨wR, rfl⟩ : ∃ wR, wR = wr := ⟨_, rfl⟩
   obtain ⟨Q, hQ⟩ : ∃ Q, inI a i M = Q := ⟨_, rfl⟩
   have HM2 : Hid (inO a (b - (i + 1)) (i + 1) Q = R) := Lib.hid (by rw [← hQ, ← inO_go a b i M hlt]; exact HM.out)
   have HQ := Lib.hid hQ
   have HGO := HGK
   clear hQ HM HGK
   have HL := Lib.hid hlt
   clear hlt
   go_wp2_with fail
   go_loopg [7] i (fun gg s7 wx => ∃ (j : Nat), s7 = .int .i64 j ∧ gg = j ∧ Hid (j ≤ i) ∧ Hid (∃ N : List Tg, inI a j N = Q ∧ SW W1 B g n c bs N wx))
   case atStart => exact ⟨i, rfl, rfl, Lib.hid (Nat.le_refl _), Lib.hid ⟨M, HQ.out, HS.out⟩⟩
   case round =>
    obtain ⟨j, rfl, hg, HJ, HR⟩ := hrel
    clear HQ HS
    obtain ⟨N, hN, hS⟩ := HR.out
    clear HR
    have HNQ := Lib.hid hN
    have HS := Lib.hid hS
    have HGK : Hid (gk = j) := Lib.hid hg
    clear hg hN hS
    by_cases haj : a < j
    ·skip
     have hless := q_less HS.out (i := j) (j := j - 1) (by have := HN.out; have := HL.out; have := HI.out; have := HJ.out; omega) (by have := HN.out; have := HL.out; have := HI.out; have := HJ.out; omega)
     cases hl : lsT (N.getD j zT) (N.getD (j - 1) zT) with
     | true =>
      rw [hl] at hless
      go_upto_region 5 with fail
      refine wl <| gz2 (.int .i64 j) (.int .i64 a) <| gzb (gtr_n rfl (j) (a) dT) <| gz2 (.bool true) (.pointer (some ⟨g4, 0, none⟩)) <|
       gzl rfl ⟨g4, 0, none⟩ (lsV bs) (rg_cell (bx_range (cs := [lsV bs, swV g n c]) (HLS.out _ _ HS.out)) (j := 0) rfl (by kernel_rfl)) <| gz2 (.int .i64 j) (.int .i64 j) <|
       gzw (.int .i64 ((j - 1 : Nat) : Int)) (sub_nn rfl j 1 (by omega) (by have := HN.out; have := HL.out; have := HI.out; have := HJ.out; omega)) <| gzc (.bool true) (fun w' => Below wr.heap.size wr w') (hless) (fun V2 hV2 => ?_)
      simp only [pu]
      refine gz1 (.bool true) <| wn ?_
      simp only [pu]
      have HS2 := Lib.hid (HS.out.below hV2)
      clear hV2 hless HS
      obtain ⟨V3, hrun, hS3⟩ := HS2.out.swap (i := j) (j := j - 1) (by have := HN.out; have := HL.out; have := HI.out; have := HJ.out; omega) (by have := HN.out; have := HL.out; have := HI.out; have := HJ.out; omega)
      have HR3 : Hid (∃ N : List Tg, inI a (j - 1) N = Q ∧ SW W1 B g n c bs N V3) := Lib.hid ⟨_, by rw [← HNQ.out, inI_go a j N haj hl], hS3⟩
      clear hS3
      go_upto_region 7 with fail
      refine wl <| gz1 (.pointer (some ⟨g4, 1, none⟩)) <| gzl rfl ⟨g4, 1, none⟩ (swV g n c) (rg_cell (bx_range (cs := [lsV bs, swV g n c]) (HLS.out _ _ HS2.out)) (j := 1) rfl (by kernel_rfl)) <| gz2 (.int .i64 j) (.int .i64 j) <|
       gzw (.int .i64 ((j - 1 : Nat) : Int)) (sub_nn rfl j 1 (by omega) (by have := HN.out; have := HL.out; have := HI.out; have := HJ.out; omega)) ?_
      simp only [pu]
      refine run_to rfl (some 34) rfl (.tuple #[]) V3 (swap_op rfl (by kernel_rfl) (by kernel_rfl) (by kernel_rfl) hrun) ?_
      simp only [pu]
      apply wpList_nil
      clear hrun HS2 HNQ
      go_upto_region 6 with fail
      refine wl <| gz1 (.int .i64 j) <| gzw (.int .i64 ((j - 1 : Nat) : Int)) (sub_nn rfl j 1 (by omega) (by have := HN.out; have := HL.out; have := HI.out; have := HJ.out; omega)) <| gz1 (.int .i64 ((j - 1 : Nat) : Int)) <| wn ?_
      simp only [pu]
      go_wp2_with fail
      go_roundg (j - 1)
      case measure => have := HGK.out; omega
      case rel => exact ⟨j - 1, rfl, rfl, Lib.hid (by have := HJ.out; omega), HR3⟩
     | false =>
      rw [hl] at hless
      go_upto_region 5 with fail
      refine wl <| gz2 (.int .i64 j) (.int .i64 a) <| gzb (gtr_n rfl (j) (a) dT) <| gz2 (.bool true) (.pointer (some ⟨g4, 0, none⟩)) <|
       gzl rfl ⟨g4, 0, none⟩ (lsV bs) (rg_cell (bx_range (cs := [lsV bs, swV g n c]) (HLS.out _ _ HS.out)) (j := 0) rfl (by kernel_rfl)) <| gz2 (.int .i64 j) (.int .i64 j) <|
       gzw (.int .i64 ((j - 1 : Nat) : Int)) (sub_nn rfl j 1 (by omega) (by have := HN.out; have := HL.out; have := HI.out; have := HJ.out; omega)) <| gzc (.bool false) (fun w' => Below wr.heap.size wr w') (hless) (fun V2 hV2 => ?_)
      simp only [pu]
      refine gz1 (.bool false) <| wn ?_
      simp only [pu]
      have HS2 := Lib.hid (HS.out.below hV2)
      clear hV2 hless HS
      have HE : Hid (inO a (b - (i + 1)) (i + 1) N = R) := Lib.hid (by rw [← HM2.out, ← HNQ.out, inI_stop a j N (.inr hl)])
      go_upto_region 3 with fail
      refine wl <| gz1 (.int .i64 i) <| gzw (.int .i64 (i + 1 : Nat)) (add_nn rfl i 1 (by have := HN.out; have := HL.out; have := HI.out; omega)) <| gz1 (.int .i64 (i + 1 : Nat)) <| wn ?_
      simp only [pu]
      go_wp2_with fail
      go_roundg (b - (i + 1))
      case measure => have := HGO.out; have := HL.out; omega
      case rel => exact ⟨i + 1, rfl, rfl, Lib.hid (by have := HI.out; have := HL.out; have := HN.out; omega), Lib.hid ⟨N, HE.out, HS2.out⟩⟩
    ·skip
     go_upto_region 5 with fail
     refine wl <| gz2 (.int .i64 j) (.int .i64 a) <| gzb (gtr_n rfl (j) (a) dF) <| gz6 (.bool false) undef undef undef undef undef <| gz2 undef (.bool false) <| wn ?_
     simp only [pu]
     have HE : Hid (inO a (b - (i + 1)) (i + 1) N = R) := Lib.hid (by rw [← HM2.out, ← HNQ.out, inI_stop a j N (.inl (by omega))])
     go_upto_region 3 with fail
     refine wl <| gz1 (.int .i64 i) <| gzw (.int .i64 (i + 1 : Nat)) (add_nn rfl i 1 (by have := HN.out; have := HL.out; have := HI.out; omega)) <| gz1 (.int .i64 (i + 1 : Nat)) <| wn ?_
     simp only [pu]
     go_wp2_with fail
     go_roundg (b - (i + 1))
     case measure => have := HGO.out; have := HL.out; omega
     case rel => exact ⟨i + 1, rfl, rfl, Lib.hid (by have := HI.out; have := HL.out; have := HN.out; omega), Lib.hid ⟨N, HE.out, HS.out⟩⟩
  ·skip
   go_upto_region 2 with fail
   refine wl <| gz2 (.int .i64 i) (.int .i64 b) <| gzb (lss_n rfl (i) (b) dF) <| wn ?_
   simp only [pu]
   have HE : Hid (SW W1 B g n c bs R wr) := Lib.hid (by rw [← HM.out, inO_end a b i M (by omega)]; exact HS.out)
   go_wp2_with fail
   go_end0
   exact ⟨rfl, HON.out _ _ HE.out⟩
end Go.Proofs.Ytgkckblcekbafaa
