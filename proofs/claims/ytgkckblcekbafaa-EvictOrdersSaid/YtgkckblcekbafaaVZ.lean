/-
 Merging two sorted parts of the row: contract, by induction.
-/
import Derived.Test.YtgkckblcekbafaaVY
namespace Go.Proofs.Ytgkckblcekbafaa
attribute [local irreducible] wpList wpQuiet
open Go.RowKit
set_option maxRecDepth 100000
set_option linter.unusedSimpArgs false
set_option linter.unusedVariables false

/-- What the merging of parts of at most N elements is held to. -/
def SymQ (B g n c bs N : Nat) : Prop := ∀ {w0 w : World} {P A E S : List Tg}, A.length + E.length ≤ N → SW w0 B g n c bs (P ++ (A ++ (E ++ S))) w → A.Pairwise T3 → E.Pairwise T3 → Lt2 A E → 0 < A.length → 0 < E.length → ∀ a m b : Nat, a = P.length → m = a + A.length → b = m + E.length →
  Calls Try.prog 51 #[.agg (lsA bs g n c), .int .i64 a, .int .i64 m, .int .i64 b] w fun e w' => e = .returned (.tuple #[]) ∧ ∃ C, Srt (A ++ E) C ∧ SW w0 B g n c bs (P ++ (C ++ S)) w'
theorem sym_at {A E : List Tg} (hA : A.Pairwise T3) (hE : E.Pairwise T3) (ht : Lt2 A E) {a m b md lo hi s : Nat} (h1 : A.length = m - a) (h2 : E.length = b - m) (ha : a ≤ s) (hm : s ≤ m) (hd : s ≤ md) (hz : md - s ≤ b - m) (hl : lo ≤ s) (hh : s ≤ hi) (h3 : lo = a ∨ md + m = lo + b) (h4 : hi = m ∨ hi = md)
  (f0 : ∀ c, lo ≤ c → c < s → lsT (E.getD (md - 1 - c) zT) (A.getD (c - a) zT) = false) (f1 : ∀ c, s ≤ c → c < hi → lsT (E.getD (md - 1 - c) zT) (A.getD (c - a) zT) = true) (hmb : m ≤ b) :
  ∀ x ∈ A.take (s - a) ++ E.take (md - s), ∀ y ∈ A.drop (s - a) ++ E.drop (md - s), T3 x y := by
 refine sym_cross A E hA hE ht (s - a) (md - s) (by omega) (by omega) (fun q1 q2 => ?_) (fun q1 q2 => ?_)
 ·have := f0 (s - 1) (by omega) (by omega)
  rwa [show md - 1 - (s - 1) = md - s by omega, show s - 1 - a = s - a - 1 by omega] at this
 ·have := f1 s (Nat.le_refl _) (by omega)
  rwa [show md - 1 - s = md - s - 1 by omega] at this
theorem sym_perm (A E : List Tg) (i j : Nat) : ((A.take i ++ E.take j) ++ (A.drop i ++ E.drop j)).Perm (A ++ E) := by
 have h : ((A.take i ++ E.take j) ++ (A.drop i ++ E.drop j)).Perm ((A.take i ++ A.drop i) ++ (E.take j ++ E.drop j)) := by
  simp only [List.append_assoc]
  refine List.Perm.append_left _ ?_
  rw [← List.append_assoc, ← List.append_assoc]
  exact List.perm_append_comm.append_right _
 rwa [List.take_append_drop, List.take_append_drop] at h
/-- What is known of the four parts. -/
structure Sym4 (P A E S L A1 A2 E1 E2 : List Tg) (a m b md s en : Nat) : Prop where
 l1 : A1.length = s - a
 l2 : A2.length = m - s
 l3 : E1.length = en - m
 l4 : E2.length = b - en
 eL : L = P ++ (A1 ++ (A2 ++ (E1 ++ (E2 ++ S))))
 s1 : A1.Pairwise T3
 s2 : A2.Pairwise T3
 s3 : E1.Pairwise T3
 s4 : E2.Pairwise T3
 t1 : Lt2 A1 E1
 t2 : Lt2 A2 E2
 cr : ∀ x ∈ A1 ++ E1, ∀ y ∈ A2 ++ E2, T3 x y
 pm : ((A1 ++ E1) ++ (A2 ++ E2)).Perm (A ++ E)
theorem sym_four {P A E S L : List Tg} (hL : P ++ (A ++ (E ++ S)) = L) (hA : A.Pairwise T3) (hE : E.Pairwise T3) (ht : Lt2 A E) {a m b md s en : Nat} (h1 : A.length = m - a) (h2 : E.length = b - m) (ha : a ≤ s) (hm : s ≤ m) (hd : s ≤ md) (hz : md - s ≤ b - m) (hen : en + s = md + m) (hmb : m ≤ b)
  (hcr : ∀ x ∈ A.take (s - a) ++ E.take (md - s), ∀ y ∈ A.drop (s - a) ++ E.drop (md - s), T3 x y) : ∃ A1 A2 E1 E2, Sym4 P A E S L A1 A2 E1 E2 a m b md s en := by
 refine ⟨A.take (s - a), A.drop (s - a), E.take (md - s), E.drop (md - s), by rw [List.length_take]; omega, by rw [List.length_drop]; omega, by rw [List.length_take]; omega, by rw [List.length_drop]; omega, ?_, hA.sublist (List.take_sublist ..), hA.sublist (List.drop_sublist ..), hE.sublist (List.take_sublist ..), hE.sublist (List.drop_sublist ..), ht.mono (fun x => List.mem_of_mem_take) (fun x => List.mem_of_mem_take), ht.mono (fun x => List.mem_of_mem_drop) (fun x => List.mem_of_mem_drop), hcr, sym_perm A E _ _⟩
 rw [← hL, ← List.append_assoc (A.take _), List.take_append_drop, ← List.append_assoc (E.take _), List.take_append_drop]
theorem srt_refl {A : List Tg} (h : A.Pairwise T3) : Srt A A := ⟨.refl _, h⟩
set_option maxRecDepth 100000 in
set_option maxHeartbeats 8000000 in
theorem q_sym3 {w0 w : World} {B g n c bs : Nat} {P A E S : List Tg} (h : SW w0 B g n c bs (P ++ (A ++ (E ++ S))) w) (hn : n < 1152921504606846976) (hA : A.Pairwise T3) (hE : E.Pairwise T3) (ht : Lt2 A E) (a m b : Nat) (ha : a = P.length) (hm : m = a + A.length) (hb : b = m + E.length) {N : Nat} (IH : SymQ B g n c bs N) (hNN : A.length + E.length ≤ N + 1) (h1A : 1 < A.length) (h1E : 1 < E.length) (md : Nat) (hmd : (a + b) / 2 = md) (hbig : md < m) : Calls Try.prog 51 #[.agg (lsA bs g n c), .int .i64 a, .int .i64 m, .int .i64 b] w fun e w' => e = .returned (.tuple #[]) ∧ ∃ C, Srt (A ++ E) C ∧ SW w0 B g n c bs (P ++ (C ++ S)) w' := by
 have hle := h.len
 simp only [List.length_append] at hle
 obtain ⟨L, hL⟩ : ∃ L, P ++ (A ++ (E ++ S)) = L := ⟨_, rfl⟩
 have hgA : ∀ q, a ≤ q → q < m → L.getD q zT = A.getD (q - a) zT := fun q h1 h2 => by
  have := gA P A (E ++ S) (q - a) (by omega)
  rwa [hL, show P.length + (q - a) = q by omega] at this
 have hgE : ∀ q, m ≤ q → q < b → L.getD q zT = E.getD (q - m) zT := fun q h1 h2 => by
  have := gB P A E S (q - m) (by omega)
  rwa [hL, show P.length + A.length + (q - m) = q by omega] at this
 have HGA := Lib.hid hgA
 have HGE := Lib.hid hgE
 have HLL := Lib.hid hL
 have HN : Hid (n < 1152921504606846976 ∧ b ≤ n ∧ a < m ∧ m < b ∧ P.length = a ∧ A.length = m - a ∧ E.length = b - m) := Lib.hid ⟨hn, by omega, by omega, by omega, by omega, by omega, by omega⟩
 have HA := Lib.hid hA
 have HE := Lib.hid hE
 have HT := Lib.hid ht
 have H1 : Hid (a + 1 < m ∧ m + 1 < b ∧ b - a ≤ N + 1) := Lib.hid (by omega)
 have HMD := Lib.hid hmd
 have HM2 : Hid (a < md ∧ md < b ∧ md + m < n + n ∧ 2 * md ≤ a + b ∧ a + b ≤ 2 * md + 1) := Lib.hid (by omega)
 have HIH := Lib.hid (fun (w0 w : World) (P A E S : List Tg) => @IH w0 w P A E S)
 rw [hL] at h
 clear IH hNN hmd hn hL hle ha hm hb hA hE ht hgA hgE h1A h1E
 go_enter Try.func51, Try.ntmps51
 go_upto_region 1 with fail
 change Code.wp _ _ _ _ (w.alloc (.cells (lsA bs g n c) 78))
 have hX4 : Bx (w.alloc (.cells (lsA bs g n c) 78)) w.heap.size (lsA bs g n c) 78 := heap_alloc_last w _
 have hA := h.alloc (.cells (lsA bs g n c) 78)
 have hgl := h.gl
 clear h
 generalize w.alloc (.cells (lsA bs g n c) 78) = W1 at *
 obtain ⟨g4, hg4⟩ : ∃ q, w.heap.size = q := ⟨_, rfl⟩
 rw [hg4] at hX4 hgl
 simp only [hg4]
 have HON : Hid (∀ U L', SW W1 B g n c bs L' U → SW w0 B g n c bs L' U) := Lib.hid fun U L' hU => hU.on hA.but
 have HLS : Hid (∀ U L', SW W1 B g n c bs L' U → Bx U g4 (lsA bs g n c) 78) := Lib.hid fun U L' hU => hU.box hX4 (by omega)
 have HS0 : Hid (SW W1 B g n c bs L W1) := Lib.hid hA.rebase
 clear hX4 hA hgl hg4
 refine wl <| gz2 (.int .i64 m) (.int .i64 a) <| gzw (.int .i64 ((m - a : Nat) : Int)) (sub_nn rfl (m) (a) (by have := HN.out; omega) (by have := HN.out; omega)) <|
  gzb (eql_n rfl (((m - a : Nat) : Int)) (1) (decide_eq_false (by have := H1.out; omega))) <| wn ?_
 simp only [pu]
 go_upto_region 13 with fail
 refine wl <| gz2 (.int .i64 b) (.int .i64 m) <| gzw (.int .i64 ((b - m : Nat) : Int)) (sub_nn rfl (b) (m) (by have := HN.out; omega) (by have := HN.out; omega)) <|
  gzb (eql_n rfl (((b - m : Nat) : Int)) (1) (decide_eq_false (by have := H1.out; omega))) <| wn ?_
 simp only [pu]
 go_upto_region 25 with fail
 refine wl <| gz2 (.int .i64 a) (.int .i64 b) <| gzw (.int .i64 ((a + b : Nat) : Int)) (add_nn rfl (a) (b) (by have := HN.out; omega)) <| gzv (.int .u64 ((a + b : Nat) : Int)) (cv_iu rfl (a + b) (by have := HN.out; omega) (by kernel_rfl) _) <|
  gzw (.int .u64 (md : Int)) (shr_q rfl (a + b) md HMD.out (by have := HN.out; omega)) <| gzv (.int .i64 md) (cv_ui rfl md (by have := HN.out; have := HM2.out; omega) (by kernel_rfl) _) <| gz1 (.int .i64 md) <| wn ?_
 simp only [pu]
 go_upto_region 26 with fail
 refine wl <| gz2 (.int .i64 md) (.int .i64 m) <| gzw (.int .i64 ((md + m : Nat) : Int)) (add_nn rfl (md) (m) (by have := HN.out; have := HM2.out; omega)) <| gz1 (.int .i64 ((md + m : Nat) : Int)) <| wn ?_
 simp only [pu]
 go_upto_region 27 with fail
 refine wl <| gz2 (.int .i64 0) (.int .i64 0) <| wn ?_
 simp only [pu]
 go_upto_region 28 with fail
 refine wl <| gz2 (.int .i64 m) (.int .i64 md) <| gzb (gtr_n rfl (m) (md) dT) <| wn ?_
 simp only [pu]
 go_upto_region 29 with fail
 refine wl <| gz2 (.int .i64 ((md + m : Nat) : Int)) (.int .i64 b) <| gzw (.int .i64 ((md + m - b : Nat) : Int)) (sub_nn rfl (md + m) (b) (by have := HN.out; have := HM2.out; omega) (by have := HN.out; have := HM2.out; omega)) <|
  gz1 (.int .i64 ((md + m - b : Nat) : Int)) <| wn ?_
 simp only [pu]
 go_upto_region 30 with fail
 refine wl <| gz2 (.int .i64 md) (.int .i64 md) <| wn ?_
 simp only [pu]
 obtain ⟨lo, hlo⟩ : ∃ q, md + m - b = q := ⟨_, rfl⟩
 simp only [hlo]
 have HLO : Hid (a ≤ lo ∧ md ≤ m ∧ md ≤ md ∧ lo ≤ md ∧ md + m ≤ lo + b ∧ (lo = a ∨ md + m = lo + b) ∧ (md = m ∨ md = md)) := Lib.hid (by have := HN.out; have := HM2.out; omega)
 clear hlo
 go_upto_region 33 with fail
 refine wl <| gz1 (.int .i64 ((md + m : Nat) : Int)) <| gzw (.int .i64 ((md + m - 1 : Nat) : Int)) (sub_nn rfl (md + m) 1 (by have := HN.out; have := HM2.out; omega) (by have := HN.out; have := HM2.out; omega)) <|
  gz1 (.int .i64 ((md + m - 1 : Nat) : Int)) <| wn ?_
 simp only [pu]
 have HMO : Hid (∀ c c', lo ≤ c → c < c' → c' < md → lsT (E.getD (md - 1 - c) zT) (A.getD (c - a) zT) = true → lsT (E.getD (md - 1 - c') zT) (A.getD (c' - a) zT) = true) := Lib.hid fun c c' h1 h2 h3 h4 => by
  have := HN.out; have := HLO.out
  exact t3_ls (pw_at HE.out (by omega) (by omega)) (ls_t3' h4 (pw_at HA.out (by omega) (by omega)))
 go_wp2_with fail
 go_loopg [18, 19] (md - lo) (fun gg s18 s19 wx => ∃ (s r : Nat), s18 = .int .i64 s ∧ s19 = .int .i64 r ∧ gg = r - s ∧ Hid (lo ≤ s ∧ s ≤ r ∧ r ≤ md) ∧ Hid (SW W1 B g n c bs L wx) ∧ Hid ((∀ c, lo ≤ c → c < s → lsT (E.getD (md - 1 - c) zT) (A.getD (c - a) zT) = false) ∧ ∀ c, r ≤ c → c < md → lsT (E.getD (md - 1 - c) zT) (A.getD (c - a) zT) = true))
 case atStart => exact ⟨lo, md, rfl, rfl, rfl, Lib.hid (by have := HLO.out; omega), HS0, Lib.hid ⟨fun c h1 h2 => by omega, fun c h1 h2 => by omega⟩⟩
 case round =>
  obtain ⟨s, r, rfl, rfl, hg, HR, HS, HF⟩ := hrel
  clear HS0
  have HGK : Hid (gk = r - s) := Lib.hid hg
  clear hg
  by_cases hlt : s < r
  ·skip
   obtain ⟨cc, hcc⟩ : ∃ q, (s + r) / 2 = q := ⟨_, rfl⟩
   have HH := Lib.hid hcc
   have HHB : Hid (cc < 1152921504606846976 ∧ s ≤ cc ∧ cc < r) := Lib.hid (by have := HR.out; have := HN.out; have := HLO.out; omega)
   have hless := q_less HS.out (i := md + m - 1 - cc) (j := cc) (by have := HHB.out; have := HR.out; have := HN.out; have := HLO.out; have := HM2.out; omega) (by have := HHB.out; have := HR.out; have := HN.out; have := HLO.out; have := HM2.out; omega)
   rw [HGE.out (md + m - 1 - cc) (by have := HHB.out; have := HR.out; have := HN.out; have := HLO.out; have := HM2.out; omega) (by have := HHB.out; have := HR.out; have := HN.out; have := HLO.out; have := HM2.out; omega), HGA.out cc (by have := HHB.out; have := HR.out; have := HN.out; have := HLO.out; have := HM2.out; omega) (by have := HHB.out; have := HR.out; have := HN.out; have := HLO.out; have := HM2.out; omega), show md + m - 1 - cc - m = md - 1 - cc by have := HHB.out; have := HR.out; have := HN.out; have := HLO.out; have := HM2.out; omega] at hless
   clear hcc
   go_upto_region 34 with fail
   refine wl <| gz2 (.int .i64 s) (.int .i64 r) <| gzb (lss_n rfl (s) (r) dT) <| wn ?_
   simp only [pu]
   go_upto_region 35 with fail
   refine wl <| gz2 (.int .i64 s) (.int .i64 r) <| gzw (.int .i64 ((s + r : Nat) : Int)) (add_nn rfl (s) (r) (by have := HR.out; have := HN.out; have := HLO.out; omega)) <|
    gzv (.int .u64 ((s + r : Nat) : Int)) (cv_iu rfl (s + r) (by have := HR.out; have := HN.out; have := HLO.out; omega) (by kernel_rfl) _) <| gzw (.int .u64 (cc : Int)) (shr_q rfl (s + r) cc HH.out (by have := HR.out; have := HN.out; have := HLO.out; omega)) <|
    gzv (.int .i64 cc) (cv_ui rfl cc (by have := HHB.out; omega) (by kernel_rfl) _) <| gz1 (.int .i64 cc) <| wn ?_
   simp only [pu]
   cases hl : lsT (E.getD (md - 1 - cc) zT) (A.getD (cc - a) zT) with
   | true =>
    rw [hl] at hless
    go_upto_region 36 with fail
    refine wl <| gz1 (.pointer (some ⟨g4, 0, none⟩)) <| gzl rfl ⟨g4, 0, none⟩ (lsV bs) (rg_cell (bx_range (cs := [lsV bs, swV g n c]) (HLS.out _ _ HS.out)) (j := 0) rfl (by kernel_rfl)) <| gz2 (.int .i64 ((md + m - 1 : Nat) : Int)) (.int .i64 cc) <|
     gzw (.int .i64 ((md + m - 1 - cc : Nat) : Int)) (sub_nn rfl (md + m - 1) cc (by have := HHB.out; have := HR.out; have := HN.out; have := HLO.out; have := HM2.out; omega) (by have := HHB.out; have := HR.out; have := HN.out; have := HLO.out; have := HM2.out; omega)) <|
     gz1 (.int .i64 cc) <| gzc (.bool true) (fun w' => Below wr.heap.size wr w') (hless) (fun V2 hV2 => ?_)
    simp only [pu]
    refine gz1 (.bool false) <| wn ?_
    simp only [pu]
    have HS2 := Lib.hid (HS.out.below hV2)
    clear hV2 hless HS
    have HF2 : Hid ((∀ c, lo ≤ c → c < s → lsT (E.getD (md - 1 - c) zT) (A.getD (c - a) zT) = false) ∧ ∀ c, cc ≤ c → c < md → lsT (E.getD (md - 1 - c) zT) (A.getD (c - a) zT) = true) := Lib.hid ⟨HF.out.1, fun c h0 h => by
     rcases Nat.lt_or_ge cc c with h1 | h1
     ·exact HMO.out cc c (by have := HHB.out; have := HR.out; omega) h1 h hl
     ·obtain rfl : c = cc := by omega
      exact hl⟩
    go_upto_region 38 with fail
    refine wl <| gz2 (.int .i64 cc) (.int .i64 cc) <| wn ?_
    simp only [pu]
    go_wp2_with fail
    go_roundg (cc - s)
    case measure => have := HGK.out; have := HHB.out; omega
    case rel => exact ⟨s, cc, rfl, rfl, rfl, Lib.hid (by have := HHB.out; have := HR.out; omega), HS2, HF2⟩
   | false =>
    rw [hl] at hless
    go_upto_region 36 with fail
    refine wl <| gz1 (.pointer (some ⟨g4, 0, none⟩)) <| gzl rfl ⟨g4, 0, none⟩ (lsV bs) (rg_cell (bx_range (cs := [lsV bs, swV g n c]) (HLS.out _ _ HS.out)) (j := 0) rfl (by kernel_rfl)) <| gz2 (.int .i64 ((md + m - 1 : Nat) : Int)) (.int .i64 cc) <|
     gzw (.int .i64 ((md + m - 1 - cc : Nat) : Int)) (sub_nn rfl (md + m - 1) cc (by have := HHB.out; have := HR.out; have := HN.out; have := HLO.out; have := HM2.out; omega) (by have := HHB.out; have := HR.out; have := HN.out; have := HLO.out; have := HM2.out; omega)) <|
     gz1 (.int .i64 cc) <| gzc (.bool false) (fun w' => Below wr.heap.size wr w') (hless) (fun V2 hV2 => ?_)
    simp only [pu]
    refine gz1 (.bool true) <| wn ?_
    simp only [pu]
    have HS2 := Lib.hid (HS.out.below hV2)
    clear hV2 hless HS
    have HF2 : Hid ((∀ c, lo ≤ c → c < cc + 1 → lsT (E.getD (md - 1 - c) zT) (A.getD (c - a) zT) = false) ∧ ∀ c, r ≤ c → c < md → lsT (E.getD (md - 1 - c) zT) (A.getD (c - a) zT) = true) := Lib.hid ⟨fun c h0 h => by
     cases hq : lsT (E.getD (md - 1 - c) zT) (A.getD (c - a) zT) with
     | false => rfl
     | true =>
      rcases Nat.lt_or_ge c cc with h1 | h1
      ·exact absurd (hl.symm.trans (HMO.out c cc h0 h1 (by have := HHB.out; have := HR.out; omega) hq)) (by decide)
      ·obtain rfl : c = cc := by omega
       exact absurd (hl.symm.trans hq) (by decide), HF.out.2⟩
    go_upto_region 37 with fail
    refine wl <| gz1 (.int .i64 cc) <| gzw (.int .i64 (cc + 1 : Nat)) (add_nn rfl cc 1 (by have := HHB.out; omega)) <| gz1 (.int .i64 (cc + 1 : Nat)) <| wn ?_
    simp only [pu]
    go_wp2_with fail
    go_roundg (r - (cc + 1))
    case measure => have := HGK.out; have := HHB.out; omega
    case rel => exact ⟨cc + 1, r, rfl, rfl, rfl, Lib.hid (by have := HHB.out; have := HR.out; omega), HS2, HF2⟩
  ·skip
   obtain rfl : r = s := by have := HR.out; omega
   go_upto_region 34 with fail
   refine wl <| gz2 (.int .i64 r) (.int .i64 r) <| gzb (lss_n rfl (r) (r) dF) <| wn ?_
   simp only [pu]
   obtain ⟨en, hen⟩ : ∃ q, md + m - r = q := ⟨_, rfl⟩
   have HEN : Hid (en + r = md + m ∧ m ≤ en ∧ en ≤ b ∧ a ≤ r ∧ r ≤ m ∧ r ≤ md ∧ md ≤ en) := Lib.hid (by have := HR.out; have := HN.out; have := HLO.out; have := HM2.out; omega)
   obtain ⟨A1, A2, E1, E2, hz4⟩ := sym_four HLL.out HA.out HE.out HT.out (a := a) (m := m) (b := b) (md := md) (s := r) (en := en) HN.out.2.2.2.2.2.1 HN.out.2.2.2.2.2.2 (by have := HEN.out; omega) (by have := HEN.out; omega) (by have := HEN.out; omega) (by have := HEN.out; omega) (by have := HEN.out; omega) (by have := HN.out; omega)
    (sym_at HA.out HE.out HT.out (lo := lo) (hi := md) HN.out.2.2.2.2.2.1 HN.out.2.2.2.2.2.2 (by have := HEN.out; omega) (by have := HEN.out; omega) (by have := HEN.out; omega) (by have := HEN.out; omega) HR.out.1 HR.out.2.2 (by have := HLO.out; omega) (by have := HLO.out; omega) HF.out.1 HF.out.2 (by have := HN.out; omega))
   have HZ := Lib.hid hz4
   have HS1 : Hid (SW W1 B g n c bs ((P ++ A1) ++ (A2 ++ (E1 ++ (E2 ++ S)))) wr) := Lib.hid (by rw [List.append_assoc, ← hz4.eL]; exact HS.out)
   clear hz4 HS HF HMO HGK
   go_upto_region 39 with fail
   refine wl <| gz2 (.int .i64 ((md + m : Nat) : Int)) (.int .i64 r) <| gzv (.int .i64 en) (by rw [← hen]; exact sub_nn rfl (md + m) r (by have := HEN.out; omega) (by have := HN.out; have := HM2.out; omega) (by kernel_rfl) (by kernel_rfl) _) <| gz1 (.int .i64 en) <| wn ?_
   simp only [pu]
   clear hen
   by_cases k1 : r < m ∧ m < en
   ·skip
    go_upto_region 40 with fail
    refine wl <| gz2 (.int .i64 r) (.int .i64 m) <| gzb (lss_n rfl (r) (m) dT) <| gz3 (.bool true) (.int .i64 m) (.int .i64 en) <|
     gzb (lss_n rfl (m) (en) dT) <| gz1 (.bool true) <| wn ?_
    simp only [pu]
    go_upto_region 41 with fail
    refine wl <| gzl rfl ⟨g4, 0, none⟩ (.agg (lsA bs g n c)) (load_ls (HLS.out _ _ HS1.out)) <| gz3 (.int .i64 r) (.int .i64 m) (.int .i64 en) <|
     gzc (.tuple #[]) (fun w' => SW W1 B g n c bs ((P ++ A1) ++ (E1 ++ (A2 ++ (E2 ++ S)))) w') (q_rot HS1.out HN.out.1 (by have := HZ.out.l2; omega) (by have := HZ.out.l3; omega) r m en (by have := HZ.out.l1; have := HEN.out; have := HN.out; rw [List.length_append]; omega) (by have := HZ.out.l2; have := HEN.out; omega) (by have := HZ.out.l3; have := HEN.out; omega)) (fun V3 hV3 => ?_)
    simp only [pu]
    apply wpList_nil
    have HR1 : Hid (SW W1 B g n c bs (P ++ (A1 ++ (E1 ++ (A2 ++ (E2 ++ S))))) V3) := Lib.hid (by rw [List.append_assoc] at hV3; exact hV3)
    clear hV3 HS1
    by_cases k2 : a < r ∧ r < md
    ·skip
     go_upto_region 42 with fail
     refine wl <| gz2 (.int .i64 a) (.int .i64 r) <| gzb (lss_n rfl (a) (r) dT) <| gz3 (.bool true) (.int .i64 r) (.int .i64 md) <|
      gzb (lss_n rfl (r) (md) dT) <| gz1 (.bool true) <| wn ?_
     simp only [pu]
     go_upto_region 43 with fail
     refine wl <| gzl rfl ⟨g4, 0, none⟩ (.agg (lsA bs g n c)) (load_ls (HLS.out _ _ HR1.out)) <| gz3 (.int .i64 a) (.int .i64 r) (.int .i64 md) <|
      gzc (.tuple #[]) (fun w' => ∃ C, Srt (A1 ++ E1) C ∧ SW W1 B g n c bs (P ++ (C ++ (A2 ++ (E2 ++ S)))) w') (HIH.out _ _ _ _ _ _ (by have := HZ.out.l1; have := HZ.out.l3; have := H1.out; have := HEN.out; have := HN.out; have := HM2.out; omega) HR1.out HZ.out.s1 HZ.out.s3 HZ.out.t1 (by have := HZ.out.l1; omega) (by have := HZ.out.l3; have := HEN.out; omega) a r md (by have := HN.out; omega) (by have := HZ.out.l1; have := HEN.out; omega) (by have := HZ.out.l3; have := HEN.out; omega)) (fun V5 hV5 => ?_)
     simp only [pu]
     apply wpList_nil
     have HR2 := Lib.hid hV5
     clear hV5 HR1
     obtain ⟨C1, hC1, hS3⟩ := HR2.out
     have hlc := hC1.len
     rw [List.length_append, HZ.out.l1, HZ.out.l3] at hlc
     have HC1 := Lib.hid hC1
     have HLC : Hid (C1.length = r - a + (en - m)) := Lib.hid hlc
     have HS3 : Hid (SW W1 B g n c bs ((P ++ C1) ++ (A2 ++ (E2 ++ S))) V5) := Lib.hid (by rw [List.append_assoc]; exact hS3)
     clear HR2 hC1 hS3 hlc
     by_cases k3 : md < en ∧ en < b
     ·skip
      go_upto_region 44 with fail
      refine wl <| gz2 (.int .i64 md) (.int .i64 en) <| gzb (lss_n rfl (md) (en) dT) <| gz3 (.bool true) (.int .i64 en) (.int .i64 b) <|
       gzb (lss_n rfl (en) (b) dT) <| gz1 (.bool true) <| wn ?_
      simp only [pu]
      go_upto_region 45 with fail
      refine wl <| gzl rfl ⟨g4, 0, none⟩ (.agg (lsA bs g n c)) (load_ls (HLS.out _ _ HS3.out)) <| gz3 (.int .i64 md) (.int .i64 en) (.int .i64 b) <|
       gzc (.tuple #[]) (fun w' => ∃ C, Srt (A2 ++ E2) C ∧ SW W1 B g n c bs ((P ++ C1) ++ (C ++ S)) w') (HIH.out _ _ _ _ _ _ (by have := HZ.out.l2; have := HZ.out.l4; have := H1.out; have := HEN.out; have := HN.out; have := HM2.out; omega) HS3.out HZ.out.s2 HZ.out.s4 HZ.out.t2 (by have := HZ.out.l2; have := HEN.out; omega) (by have := HZ.out.l4; omega) md en b (by have := HLC.out; have := HEN.out; have := HN.out; rw [List.length_append]; omega) (by have := HZ.out.l2; have := HEN.out; omega) (by have := HZ.out.l4; have := HEN.out; omega)) (fun V7 hV7 => ?_)
      simp only [pu]
      apply wpList_nil
      have HR3 := Lib.hid hV7
      clear hV7
      have HEE : Hid (∃ C, Srt (A ++ E) C ∧ SW w0 B g n c bs (P ++ (C ++ S)) V7) := Lib.hid (by
       obtain ⟨C2, hC2, hS4⟩ := HR3.out
       have h5 := srt_app HC1.out hC2 HZ.out.cr
       exact ⟨C1 ++ C2, ⟨h5.1.trans HZ.out.pm, h5.2⟩, HON.out _ _ (by rw [List.append_assoc C1, ← List.append_assoc P]; exact hS4)⟩)
      clear HR3
      go_wp2_with fail
      go_end0
      exact ⟨rfl, HEE.out⟩
     ·skip
      by_cases k4 : md < en
      ·skip
       go_upto_region 44 with fail
       refine wl <| gz2 (.int .i64 md) (.int .i64 en) <| gzb (lss_n rfl (md) (en) dT) <| gz3 (.bool true) (.int .i64 en) (.int .i64 b) <|
        gzb (lss_n rfl (en) (b) dF) <| gz1 (.bool false) <| wn ?_
       simp only [pu]
       have hnil : E2 = [] := List.length_eq_zero_iff.1 (by have := HZ.out.l2; have := HZ.out.l4; have := HEN.out; have := HN.out; omega)
       have HR3 : Hid (∃ C, Srt (A2 ++ E2) C ∧ SW W1 B g n c bs ((P ++ C1) ++ (C ++ S)) V5) := Lib.hid ⟨A2 ++ E2, srt_refl (by rw [hnil]; simp; exact HZ.out.s2), by rw [List.append_assoc A2]; exact HS3.out⟩
       clear hnil
       have HEE : Hid (∃ C, Srt (A ++ E) C ∧ SW w0 B g n c bs (P ++ (C ++ S)) V5) := Lib.hid (by
        obtain ⟨C2, hC2, hS4⟩ := HR3.out
        have h5 := srt_app HC1.out hC2 HZ.out.cr
        exact ⟨C1 ++ C2, ⟨h5.1.trans HZ.out.pm, h5.2⟩, HON.out _ _ (by rw [List.append_assoc C1, ← List.append_assoc P]; exact hS4)⟩)
       clear HR3
       go_wp2_with fail
       go_end0
       exact ⟨rfl, HEE.out⟩
      ·skip
       go_upto_region 44 with fail
       refine wl <| gz2 (.int .i64 md) (.int .i64 en) <| gzb (lss_n rfl (md) (en) dF) <| gz5 (.bool false) undef undef undef (.bool false) <| wn ?_
       simp only [pu]
       have hnil : A2 = [] := List.length_eq_zero_iff.1 (by have := HZ.out.l2; have := HZ.out.l4; have := HEN.out; have := HN.out; omega)
       have HR3 : Hid (∃ C, Srt (A2 ++ E2) C ∧ SW W1 B g n c bs ((P ++ C1) ++ (C ++ S)) V5) := Lib.hid ⟨A2 ++ E2, srt_refl (by rw [hnil]; simp; exact HZ.out.s4), by rw [List.append_assoc A2]; exact HS3.out⟩
       clear hnil
       have HEE : Hid (∃ C, Srt (A ++ E) C ∧ SW w0 B g n c bs (P ++ (C ++ S)) V5) := Lib.hid (by
        obtain ⟨C2, hC2, hS4⟩ := HR3.out
        have h5 := srt_app HC1.out hC2 HZ.out.cr
        exact ⟨C1 ++ C2, ⟨h5.1.trans HZ.out.pm, h5.2⟩, HON.out _ _ (by rw [List.append_assoc C1, ← List.append_assoc P]; exact hS4)⟩)
       clear HR3
       go_wp2_with fail
       go_end0
       exact ⟨rfl, HEE.out⟩
    ·skip
     by_cases k4 : a < r
     ·skip
      go_upto_region 42 with fail
      refine wl <| gz2 (.int .i64 a) (.int .i64 r) <| gzb (lss_n rfl (a) (r) dT) <| gz3 (.bool true) (.int .i64 r) (.int .i64 md) <|
       gzb (lss_n rfl (r) (md) dF) <| gz1 (.bool false) <| wn ?_
      simp only [pu]
      have hnil : E1 = [] := List.length_eq_zero_iff.1 (by have := HZ.out.l1; have := HZ.out.l3; have := HEN.out; have := HN.out; omega)
      have HR2 : Hid (∃ C, Srt (A1 ++ E1) C ∧ SW W1 B g n c bs (P ++ (C ++ (A2 ++ (E2 ++ S)))) V3) := Lib.hid ⟨A1 ++ E1, srt_refl (by rw [hnil]; simp; exact HZ.out.s1), by rw [List.append_assoc A1]; exact HR1.out⟩
      clear hnil HR1
      obtain ⟨C1, hC1, hS3⟩ := HR2.out
      have hlc := hC1.len
      rw [List.length_append, HZ.out.l1, HZ.out.l3] at hlc
      have HC1 := Lib.hid hC1
      have HLC : Hid (C1.length = r - a + (en - m)) := Lib.hid hlc
      have HS3 : Hid (SW W1 B g n c bs ((P ++ C1) ++ (A2 ++ (E2 ++ S))) V3) := Lib.hid (by rw [List.append_assoc]; exact hS3)
      clear HR2 hC1 hS3 hlc
      by_cases k3 : md < en ∧ en < b
      ·skip
       go_upto_region 44 with fail
       refine wl <| gz2 (.int .i64 md) (.int .i64 en) <| gzb (lss_n rfl (md) (en) dT) <| gz3 (.bool true) (.int .i64 en) (.int .i64 b) <|
        gzb (lss_n rfl (en) (b) dT) <| gz1 (.bool true) <| wn ?_
       simp only [pu]
       go_upto_region 45 with fail
       refine wl <| gzl rfl ⟨g4, 0, none⟩ (.agg (lsA bs g n c)) (load_ls (HLS.out _ _ HS3.out)) <| gz3 (.int .i64 md) (.int .i64 en) (.int .i64 b) <|
        gzc (.tuple #[]) (fun w' => ∃ C, Srt (A2 ++ E2) C ∧ SW W1 B g n c bs ((P ++ C1) ++ (C ++ S)) w') (HIH.out _ _ _ _ _ _ (by have := HZ.out.l2; have := HZ.out.l4; have := H1.out; have := HEN.out; have := HN.out; have := HM2.out; omega) HS3.out HZ.out.s2 HZ.out.s4 HZ.out.t2 (by have := HZ.out.l2; have := HEN.out; omega) (by have := HZ.out.l4; omega) md en b (by have := HLC.out; have := HEN.out; have := HN.out; rw [List.length_append]; omega) (by have := HZ.out.l2; have := HEN.out; omega) (by have := HZ.out.l4; have := HEN.out; omega)) (fun V7 hV7 => ?_)
       simp only [pu]
       apply wpList_nil
       have HR3 := Lib.hid hV7
       clear hV7
       have HEE : Hid (∃ C, Srt (A ++ E) C ∧ SW w0 B g n c bs (P ++ (C ++ S)) V7) := Lib.hid (by
        obtain ⟨C2, hC2, hS4⟩ := HR3.out
        have h5 := srt_app HC1.out hC2 HZ.out.cr
        exact ⟨C1 ++ C2, ⟨h5.1.trans HZ.out.pm, h5.2⟩, HON.out _ _ (by rw [List.append_assoc C1, ← List.append_assoc P]; exact hS4)⟩)
       clear HR3
       go_wp2_with fail
       go_end0
       exact ⟨rfl, HEE.out⟩
      ·skip
       by_cases k4 : md < en
       ·skip
        go_upto_region 44 with fail
        refine wl <| gz2 (.int .i64 md) (.int .i64 en) <| gzb (lss_n rfl (md) (en) dT) <| gz3 (.bool true) (.int .i64 en) (.int .i64 b) <|
         gzb (lss_n rfl (en) (b) dF) <| gz1 (.bool false) <| wn ?_
        simp only [pu]
        have hnil : E2 = [] := List.length_eq_zero_iff.1 (by have := HZ.out.l2; have := HZ.out.l4; have := HEN.out; have := HN.out; omega)
        have HR3 : Hid (∃ C, Srt (A2 ++ E2) C ∧ SW W1 B g n c bs ((P ++ C1) ++ (C ++ S)) V3) := Lib.hid ⟨A2 ++ E2, srt_refl (by rw [hnil]; simp; exact HZ.out.s2), by rw [List.append_assoc A2]; exact HS3.out⟩
        clear hnil
        have HEE : Hid (∃ C, Srt (A ++ E) C ∧ SW w0 B g n c bs (P ++ (C ++ S)) V3) := Lib.hid (by
         obtain ⟨C2, hC2, hS4⟩ := HR3.out
         have h5 := srt_app HC1.out hC2 HZ.out.cr
         exact ⟨C1 ++ C2, ⟨h5.1.trans HZ.out.pm, h5.2⟩, HON.out _ _ (by rw [List.append_assoc C1, ← List.append_assoc P]; exact hS4)⟩)
        clear HR3
        go_wp2_with fail
        go_end0
        exact ⟨rfl, HEE.out⟩
       ·skip
        go_upto_region 44 with fail
        refine wl <| gz2 (.int .i64 md) (.int .i64 en) <| gzb (lss_n rfl (md) (en) dF) <| gz5 (.bool false) undef undef undef (.bool false) <| wn ?_
        simp only [pu]
        have hnil : A2 = [] := List.length_eq_zero_iff.1 (by have := HZ.out.l2; have := HZ.out.l4; have := HEN.out; have := HN.out; omega)
        have HR3 : Hid (∃ C, Srt (A2 ++ E2) C ∧ SW W1 B g n c bs ((P ++ C1) ++ (C ++ S)) V3) := Lib.hid ⟨A2 ++ E2, srt_refl (by rw [hnil]; simp; exact HZ.out.s4), by rw [List.append_assoc A2]; exact HS3.out⟩
        clear hnil
        have HEE : Hid (∃ C, Srt (A ++ E) C ∧ SW w0 B g n c bs (P ++ (C ++ S)) V3) := Lib.hid (by
         obtain ⟨C2, hC2, hS4⟩ := HR3.out
         have h5 := srt_app HC1.out hC2 HZ.out.cr
         exact ⟨C1 ++ C2, ⟨h5.1.trans HZ.out.pm, h5.2⟩, HON.out _ _ (by rw [List.append_assoc C1, ← List.append_assoc P]; exact hS4)⟩)
        clear HR3
        go_wp2_with fail
        go_end0
        exact ⟨rfl, HEE.out⟩
     ·skip
      go_upto_region 42 with fail
      refine wl <| gz2 (.int .i64 a) (.int .i64 r) <| gzb (lss_n rfl (a) (r) dF) <| gz5 (.bool false) undef undef undef (.bool false) <| wn ?_
      simp only [pu]
      have hnil : A1 = [] := List.length_eq_zero_iff.1 (by have := HZ.out.l1; have := HZ.out.l3; have := HEN.out; have := HN.out; omega)
      have HR2 : Hid (∃ C, Srt (A1 ++ E1) C ∧ SW W1 B g n c bs (P ++ (C ++ (A2 ++ (E2 ++ S)))) V3) := Lib.hid ⟨A1 ++ E1, srt_refl (by rw [hnil]; simp; exact HZ.out.s3), by rw [List.append_assoc A1]; exact HR1.out⟩
      clear hnil HR1
      obtain ⟨C1, hC1, hS3⟩ := HR2.out
      have hlc := hC1.len
      rw [List.length_append, HZ.out.l1, HZ.out.l3] at hlc
      have HC1 := Lib.hid hC1
      have HLC : Hid (C1.length = r - a + (en - m)) := Lib.hid hlc
      have HS3 : Hid (SW W1 B g n c bs ((P ++ C1) ++ (A2 ++ (E2 ++ S))) V3) := Lib.hid (by rw [List.append_assoc]; exact hS3)
      clear HR2 hC1 hS3 hlc
      by_cases k3 : md < en ∧ en < b
      ·skip
       go_upto_region 44 with fail
       refine wl <| gz2 (.int .i64 md) (.int .i64 en) <| gzb (lss_n rfl (md) (en) dT) <| gz3 (.bool true) (.int .i64 en) (.int .i64 b) <|
        gzb (lss_n rfl (en) (b) dT) <| gz1 (.bool true) <| wn ?_
       simp only [pu]
       go_upto_region 45 with fail
       refine wl <| gzl rfl ⟨g4, 0, none⟩ (.agg (lsA bs g n c)) (load_ls (HLS.out _ _ HS3.out)) <| gz3 (.int .i64 md) (.int .i64 en) (.int .i64 b) <|
        gzc (.tuple #[]) (fun w' => ∃ C, Srt (A2 ++ E2) C ∧ SW W1 B g n c bs ((P ++ C1) ++ (C ++ S)) w') (HIH.out _ _ _ _ _ _ (by have := HZ.out.l2; have := HZ.out.l4; have := H1.out; have := HEN.out; have := HN.out; have := HM2.out; omega) HS3.out HZ.out.s2 HZ.out.s4 HZ.out.t2 (by have := HZ.out.l2; have := HEN.out; omega) (by have := HZ.out.l4; omega) md en b (by have := HLC.out; have := HEN.out; have := HN.out; rw [List.length_append]; omega) (by have := HZ.out.l2; have := HEN.out; omega) (by have := HZ.out.l4; have := HEN.out; omega)) (fun V7 hV7 => ?_)
       simp only [pu]
       apply wpList_nil
       have HR3 := Lib.hid hV7
       clear hV7
       have HEE : Hid (∃ C, Srt (A ++ E) C ∧ SW w0 B g n c bs (P ++ (C ++ S)) V7) := Lib.hid (by
        obtain ⟨C2, hC2, hS4⟩ := HR3.out
        have h5 := srt_app HC1.out hC2 HZ.out.cr
        exact ⟨C1 ++ C2, ⟨h5.1.trans HZ.out.pm, h5.2⟩, HON.out _ _ (by rw [List.append_assoc C1, ← List.append_assoc P]; exact hS4)⟩)
       clear HR3
       go_wp2_with fail
       go_end0
       exact ⟨rfl, HEE.out⟩
      ·skip
       by_cases k4 : md < en
       ·skip
        go_upto_region 44 with fail
        refine wl <| gz2 (.int .i64 md) (.int .i64 en) <| gzb (lss_n rfl (md) (en) dT) <| gz3 (.bool true) (.int .i64 en) (.int .i64 b) <|
         gzb (lss_n rfl (en) (b) dF) <| gz1 (.bool false) <| wn ?_
        simp only [pu]
        have hnil : E2 = [] := List.length_eq_zero_iff.1 (by have := HZ.out.l2; have := HZ.out.l4; have := HEN.out; have := HN.out; omega)
        have HR3 : Hid (∃ C, Srt (A2 ++ E2) C ∧ SW W1 B g n c bs ((P ++ C1) ++ (C ++ S)) V3) := Lib.hid ⟨A2 ++ E2, srt_refl (by rw [hnil]; simp; exact HZ.out.s2), by rw [List.append_assoc A2]; exact HS3.out⟩
        clear hnil
        have HEE : Hid (∃ C, Srt (A ++ E) C ∧ SW w0 B g n c bs (P ++ (C ++ S)) V3) := Lib.hid (by
         obtain ⟨C2, hC2, hS4⟩ := HR3.out
         have h5 := srt_app HC1.out hC2 HZ.out.cr
         exact ⟨C1 ++ C2, ⟨h5.1.trans HZ.out.pm, h5.2⟩, HON.out _ _ (by rw [List.append_assoc C1, ← List.append_assoc P]; exact hS4)⟩)
        clear HR3
        go_wp2_with fail
        go_end0
        exact ⟨rfl, HEE.out⟩
       ·skip
        go_upto_region 44 with fail
        refine wl <| gz2 (.int .i64 md) (.int .i64 en) <| gzb (lss_n rfl (md) (en) dF) <| gz5 (.bool false) undef undef undef (.bool false) <| wn ?_
        simp only [pu]
        have hnil : A2 = [] := List.length_eq_zero_iff.1 (by have := HZ.out.l2; have := HZ.out.l4; have := HEN.out; have := HN.out; omega)
        have HR3 : Hid (∃ C, Srt (A2 ++ E2) C ∧ SW W1 B g n c bs ((P ++ C1) ++ (C ++ S)) V3) := Lib.hid ⟨A2 ++ E2, srt_refl (by rw [hnil]; simp; exact HZ.out.s4), by rw [List.append_assoc A2]; exact HS3.out⟩
        clear hnil
        have HEE : Hid (∃ C, Srt (A ++ E) C ∧ SW w0 B g n c bs (P ++ (C ++ S)) V3) := Lib.hid (by
         obtain ⟨C2, hC2, hS4⟩ := HR3.out
         have h5 := srt_app HC1.out hC2 HZ.out.cr
         exact ⟨C1 ++ C2, ⟨h5.1.trans HZ.out.pm, h5.2⟩, HON.out _ _ (by rw [List.append_assoc C1, ← List.append_assoc P]; exact hS4)⟩)
        clear HR3
        go_wp2_with fail
        go_end0
        exact ⟨rfl, HEE.out⟩
   ·skip
    by_cases k4 : r < m
    ·skip
     go_upto_region 40 with fail
     refine wl <| gz2 (.int .i64 r) (.int .i64 m) <| gzb (lss_n rfl (r) (m) dT) <| gz3 (.bool true) (.int .i64 m) (.int .i64 en) <|
      gzb (lss_n rfl (m) (en) dF) <| gz1 (.bool false) <| wn ?_
     simp only [pu]
     have hnil : E1 = [] := List.length_eq_zero_iff.1 (by have := HZ.out.l2; have := HZ.out.l3; have := HEN.out; have := HN.out; omega)
     have HR1 : Hid (SW W1 B g n c bs (P ++ (A1 ++ (E1 ++ (A2 ++ (E2 ++ S))))) wr) := Lib.hid (by have := HS1.out; rw [hnil, List.append_assoc] at this; rw [hnil]; exact this)
     clear hnil HS1
     by_cases k2 : a < r ∧ r < md
     ·skip
      go_upto_region 42 with fail
      refine wl <| gz2 (.int .i64 a) (.int .i64 r) <| gzb (lss_n rfl (a) (r) dT) <| gz3 (.bool true) (.int .i64 r) (.int .i64 md) <|
       gzb (lss_n rfl (r) (md) dT) <| gz1 (.bool true) <| wn ?_
      simp only [pu]
      go_upto_region 43 with fail
      refine wl <| gzl rfl ⟨g4, 0, none⟩ (.agg (lsA bs g n c)) (load_ls (HLS.out _ _ HR1.out)) <| gz3 (.int .i64 a) (.int .i64 r) (.int .i64 md) <|
       gzc (.tuple #[]) (fun w' => ∃ C, Srt (A1 ++ E1) C ∧ SW W1 B g n c bs (P ++ (C ++ (A2 ++ (E2 ++ S)))) w') (HIH.out _ _ _ _ _ _ (by have := HZ.out.l1; have := HZ.out.l3; have := H1.out; have := HEN.out; have := HN.out; have := HM2.out; omega) HR1.out HZ.out.s1 HZ.out.s3 HZ.out.t1 (by have := HZ.out.l1; omega) (by have := HZ.out.l3; have := HEN.out; omega) a r md (by have := HN.out; omega) (by have := HZ.out.l1; have := HEN.out; omega) (by have := HZ.out.l3; have := HEN.out; omega)) (fun V5 hV5 => ?_)
      simp only [pu]
      apply wpList_nil
      have HR2 := Lib.hid hV5
      clear hV5 HR1
      obtain ⟨C1, hC1, hS3⟩ := HR2.out
      have hlc := hC1.len
      rw [List.length_append, HZ.out.l1, HZ.out.l3] at hlc
      have HC1 := Lib.hid hC1
      have HLC : Hid (C1.length = r - a + (en - m)) := Lib.hid hlc
      have HS3 : Hid (SW W1 B g n c bs ((P ++ C1) ++ (A2 ++ (E2 ++ S))) V5) := Lib.hid (by rw [List.append_assoc]; exact hS3)
      clear HR2 hC1 hS3 hlc
      by_cases k3 : md < en ∧ en < b
      ·skip
       go_upto_region 44 with fail
       refine wl <| gz2 (.int .i64 md) (.int .i64 en) <| gzb (lss_n rfl (md) (en) dT) <| gz3 (.bool true) (.int .i64 en) (.int .i64 b) <|
        gzb (lss_n rfl (en) (b) dT) <| gz1 (.bool true) <| wn ?_
       simp only [pu]
       go_upto_region 45 with fail
       refine wl <| gzl rfl ⟨g4, 0, none⟩ (.agg (lsA bs g n c)) (load_ls (HLS.out _ _ HS3.out)) <| gz3 (.int .i64 md) (.int .i64 en) (.int .i64 b) <|
        gzc (.tuple #[]) (fun w' => ∃ C, Srt (A2 ++ E2) C ∧ SW W1 B g n c bs ((P ++ C1) ++ (C ++ S)) w') (HIH.out _ _ _ _ _ _ (by have := HZ.out.l2; have := HZ.out.l4; have := H1.out; have := HEN.out; have := HN.out; have := HM2.out; omega) HS3.out HZ.out.s2 HZ.out.s4 HZ.out.t2 (by have := HZ.out.l2; have := HEN.out; omega) (by have := HZ.out.l4; omega) md en b (by have := HLC.out; have := HEN.out; have := HN.out; rw [List.length_append]; omega) (by have := HZ.out.l2; have := HEN.out; omega) (by have := HZ.out.l4; have := HEN.out; omega)) (fun V7 hV7 => ?_)
       simp only [pu]
       apply wpList_nil
       have HR3 := Lib.hid hV7
       clear hV7
       have HEE : Hid (∃ C, Srt (A ++ E) C ∧ SW w0 B g n c bs (P ++ (C ++ S)) V7) := Lib.hid (by
        obtain ⟨C2, hC2, hS4⟩ := HR3.out
        have h5 := srt_app HC1.out hC2 HZ.out.cr
        exact ⟨C1 ++ C2, ⟨h5.1.trans HZ.out.pm, h5.2⟩, HON.out _ _ (by rw [List.append_assoc C1, ← List.append_assoc P]; exact hS4)⟩)
       clear HR3
       go_wp2_with fail
       go_end0
       exact ⟨rfl, HEE.out⟩
      ·skip
       by_cases k4 : md < en
       ·skip
        go_upto_region 44 with fail
        refine wl <| gz2 (.int .i64 md) (.int .i64 en) <| gzb (lss_n rfl (md) (en) dT) <| gz3 (.bool true) (.int .i64 en) (.int .i64 b) <|
         gzb (lss_n rfl (en) (b) dF) <| gz1 (.bool false) <| wn ?_
        simp only [pu]
        have hnil : E2 = [] := List.length_eq_zero_iff.1 (by have := HZ.out.l2; have := HZ.out.l4; have := HEN.out; have := HN.out; omega)
        have HR3 : Hid (∃ C, Srt (A2 ++ E2) C ∧ SW W1 B g n c bs ((P ++ C1) ++ (C ++ S)) V5) := Lib.hid ⟨A2 ++ E2, srt_refl (by rw [hnil]; simp; exact HZ.out.s2), by rw [List.append_assoc A2]; exact HS3.out⟩
        clear hnil
        have HEE : Hid (∃ C, Srt (A ++ E) C ∧ SW w0 B g n c bs (P ++ (C ++ S)) V5) := Lib.hid (by
         obtain ⟨C2, hC2, hS4⟩ := HR3.out
         have h5 := srt_app HC1.out hC2 HZ.out.cr
         exact ⟨C1 ++ C2, ⟨h5.1.trans HZ.out.pm, h5.2⟩, HON.out _ _ (by rw [List.append_assoc C1, ← List.append_assoc P]; exact hS4)⟩)
        clear HR3
        go_wp2_with fail
        go_end0
        exact ⟨rfl, HEE.out⟩
       ·skip
        go_upto_region 44 with fail
        refine wl <| gz2 (.int .i64 md) (.int .i64 en) <| gzb (lss_n rfl (md) (en) dF) <| gz5 (.bool false) undef undef undef (.bool false) <| wn ?_
        simp only [pu]
        have hnil : A2 = [] := List.length_eq_zero_iff.1 (by have := HZ.out.l2; have := HZ.out.l4; have := HEN.out; have := HN.out; omega)
        have HR3 : Hid (∃ C, Srt (A2 ++ E2) C ∧ SW W1 B g n c bs ((P ++ C1) ++ (C ++ S)) V5) := Lib.hid ⟨A2 ++ E2, srt_refl (by rw [hnil]; simp; exact HZ.out.s4), by rw [List.append_assoc A2]; exact HS3.out⟩
        clear hnil
        have HEE : Hid (∃ C, Srt (A ++ E) C ∧ SW w0 B g n c bs (P ++ (C ++ S)) V5) := Lib.hid (by
         obtain ⟨C2, hC2, hS4⟩ := HR3.out
         have h5 := srt_app HC1.out hC2 HZ.out.cr
         exact ⟨C1 ++ C2, ⟨h5.1.trans HZ.out.pm, h5.2⟩, HON.out _ _ (by rw [List.append_assoc C1, ← List.append_assoc P]; exact hS4)⟩)
        clear HR3
        go_wp2_with fail
        go_end0
        exact ⟨rfl, HEE.out⟩
     ·skip
      by_cases k4 : a < r
      ·skip
       go_upto_region 42 with fail
       refine wl <| gz2 (.int .i64 a) (.int .i64 r) <| gzb (lss_n rfl (a) (r) dT) <| gz3 (.bool true) (.int .i64 r) (.int .i64 md) <|
        gzb (lss_n rfl (r) (md) dF) <| gz1 (.bool false) <| wn ?_
       simp only [pu]
       have hnil : E1 = [] := List.length_eq_zero_iff.1 (by have := HZ.out.l1; have := HZ.out.l3; have := HEN.out; have := HN.out; omega)
       have HR2 : Hid (∃ C, Srt (A1 ++ E1) C ∧ SW W1 B g n c bs (P ++ (C ++ (A2 ++ (E2 ++ S)))) wr) := Lib.hid ⟨A1 ++ E1, srt_refl (by rw [hnil]; simp; exact HZ.out.s1), by rw [List.append_assoc A1]; exact HR1.out⟩
       clear hnil HR1
       obtain ⟨C1, hC1, hS3⟩ := HR2.out
       have hlc := hC1.len
       rw [List.length_append, HZ.out.l1, HZ.out.l3] at hlc
       have HC1 := Lib.hid hC1
       have HLC : Hid (C1.length = r - a + (en - m)) := Lib.hid hlc
       have HS3 : Hid (SW W1 B g n c bs ((P ++ C1) ++ (A2 ++ (E2 ++ S))) wr) := Lib.hid (by rw [List.append_assoc]; exact hS3)
       clear HR2 hC1 hS3 hlc
       by_cases k3 : md < en ∧ en < b
       ·skip
        go_upto_region 44 with fail
        refine wl <| gz2 (.int .i64 md) (.int .i64 en) <| gzb (lss_n rfl (md) (en) dT) <| gz3 (.bool true) (.int .i64 en) (.int .i64 b) <|
         gzb (lss_n rfl (en) (b) dT) <| gz1 (.bool true) <| wn ?_
        simp only [pu]
        go_upto_region 45 with fail
        refine wl <| gzl rfl ⟨g4, 0, none⟩ (.agg (lsA bs g n c)) (load_ls (HLS.out _ _ HS3.out)) <| gz3 (.int .i64 md) (.int .i64 en) (.int .i64 b) <|
         gzc (.tuple #[]) (fun w' => ∃ C, Srt (A2 ++ E2) C ∧ SW W1 B g n c bs ((P ++ C1) ++ (C ++ S)) w') (HIH.out _ _ _ _ _ _ (by have := HZ.out.l2; have := HZ.out.l4; have := H1.out; have := HEN.out; have := HN.out; have := HM2.out; omega) HS3.out HZ.out.s2 HZ.out.s4 HZ.out.t2 (by have := HZ.out.l2; have := HEN.out; omega) (by have := HZ.out.l4; omega) md en b (by have := HLC.out; have := HEN.out; have := HN.out; rw [List.length_append]; omega) (by have := HZ.out.l2; have := HEN.out; omega) (by have := HZ.out.l4; have := HEN.out; omega)) (fun V7 hV7 => ?_)
        simp only [pu]
        apply wpList_nil
        have HR3 := Lib.hid hV7
        clear hV7
        have HEE : Hid (∃ C, Srt (A ++ E) C ∧ SW w0 B g n c bs (P ++ (C ++ S)) V7) := Lib.hid (by
         obtain ⟨C2, hC2, hS4⟩ := HR3.out
         have h5 := srt_app HC1.out hC2 HZ.out.cr
         exact ⟨C1 ++ C2, ⟨h5.1.trans HZ.out.pm, h5.2⟩, HON.out _ _ (by rw [List.append_assoc C1, ← List.append_assoc P]; exact hS4)⟩)
        clear HR3
        go_wp2_with fail
        go_end0
        exact ⟨rfl, HEE.out⟩
       ·skip
        by_cases k4 : md < en
        ·skip
         go_upto_region 44 with fail
         refine wl <| gz2 (.int .i64 md) (.int .i64 en) <| gzb (lss_n rfl (md) (en) dT) <| gz3 (.bool true) (.int .i64 en) (.int .i64 b) <|
          gzb (lss_n rfl (en) (b) dF) <| gz1 (.bool false) <| wn ?_
         simp only [pu]
         have hnil : E2 = [] := List.length_eq_zero_iff.1 (by have := HZ.out.l2; have := HZ.out.l4; have := HEN.out; have := HN.out; omega)
         have HR3 : Hid (∃ C, Srt (A2 ++ E2) C ∧ SW W1 B g n c bs ((P ++ C1) ++ (C ++ S)) wr) := Lib.hid ⟨A2 ++ E2, srt_refl (by rw [hnil]; simp; exact HZ.out.s2), by rw [List.append_assoc A2]; exact HS3.out⟩
         clear hnil
         have HEE : Hid (∃ C, Srt (A ++ E) C ∧ SW w0 B g n c bs (P ++ (C ++ S)) wr) := Lib.hid (by
          obtain ⟨C2, hC2, hS4⟩ := HR3.out
          have h5 := srt_app HC1.out hC2 HZ.out.cr
          exact ⟨C1 ++ C2, ⟨h5.1.trans HZ.out.pm, h5.2⟩, HON.out _ _ (by rw [List.append_assoc C1, ← List.append_assoc P]; exact hS4)⟩)
         clear HR3
         go_wp2_with fail
         go_end0
         exact ⟨rfl, HEE.out⟩
        ·skip
         go_upto_region 44 with fail
         refine wl <| gz2 (.int .i64 md) (.int .i64 en) <| gzb (lss_n rfl (md) (en) dF) <| gz5 (.bool false) undef undef undef (.bool false) <| wn ?_
         simp only [pu]
         have hnil : A2 = [] := List.length_eq_zero_iff.1 (by have := HZ.out.l2; have := HZ.out.l4; have := HEN.out; have := HN.out; omega)
         have HR3 : Hid (∃ C, Srt (A2 ++ E2) C ∧ SW W1 B g n c bs ((P ++ C1) ++ (C ++ S)) wr) := Lib.hid ⟨A2 ++ E2, srt_refl (by rw [hnil]; simp; exact HZ.out.s4), by rw [List.append_assoc A2]; exact HS3.out⟩
         clear hnil
         have HEE : Hid (∃ C, Srt (A ++ E) C ∧ SW w0 B g n c bs (P ++ (C ++ S)) wr) := Lib.hid (by
          obtain ⟨C2, hC2, hS4⟩ := HR3.out
          have h5 := srt_app HC1.out hC2 HZ.out.cr
          exact ⟨C1 ++ C2, ⟨h5.1.trans HZ.out.pm, h5.2⟩, HON.out _ _ (by rw [List.append_assoc C1, ← List.append_assoc P]; exact hS4)⟩)
         clear HR3
         go_wp2_with fail
         go_end0
         exact ⟨rfl, HEE.out⟩
      ·skip
       go_upto_region 42 with fail
       refine wl <| gz2 (.int .i64 a) (.int .i64 r) <| gzb (lss_n rfl (a) (r) dF) <| gz5 (.bool false) undef undef undef (.bool false) <| wn ?_
       simp only [pu]
       have hnil : A1 = [] := List.length_eq_zero_iff.1 (by have := HZ.out.l1; have := HZ.out.l3; have := HEN.out; have := HN.out; omega)
       have HR2 : Hid (∃ C, Srt (A1 ++ E1) C ∧ SW W1 B g n c bs (P ++ (C ++ (A2 ++ (E2 ++ S)))) wr) := Lib.hid ⟨A1 ++ E1, srt_refl (by rw [hnil]; simp; exact HZ.out.s3), by rw [List.append_assoc A1]; exact HR1.out⟩
       clear hnil HR1
       obtain ⟨C1, hC1, hS3⟩ := HR2.out
       have hlc := hC1.len
       rw [List.length_append, HZ.out.l1, HZ.out.l3] at hlc
       have HC1 := Lib.hid hC1
       have HLC : Hid (C1.length = r - a + (en - m)) := Lib.hid hlc
       have HS3 : Hid (SW W1 B g n c bs ((P ++ C1) ++ (A2 ++ (E2 ++ S))) wr) := Lib.hid (by rw [List.append_assoc]; exact hS3)
       clear HR2 hC1 hS3 hlc
       by_cases k3 : md < en ∧ en < b
       ·skip
        go_upto_region 44 with fail
        refine wl <| gz2 (.int .i64 md) (.int .i64 en) <| gzb (lss_n rfl (md) (en) dT) <| gz3 (.bool true) (.int .i64 en) (.int .i64 b) <|
         gzb (lss_n rfl (en) (b) dT) <| gz1 (.bool true) <| wn ?_
        simp only [pu]
        go_upto_region 45 with fail
        refine wl <| gzl rfl ⟨g4, 0, none⟩ (.agg (lsA bs g n c)) (load_ls (HLS.out _ _ HS3.out)) <| gz3 (.int .i64 md) (.int .i64 en) (.int .i64 b) <|
         gzc (.tuple #[]) (fun w' => ∃ C, Srt (A2 ++ E2) C ∧ SW W1 B g n c bs ((P ++ C1) ++ (C ++ S)) w') (HIH.out _ _ _ _ _ _ (by have := HZ.out.l2; have := HZ.out.l4; have := H1.out; have := HEN.out; have := HN.out; have := HM2.out; omega) HS3.out HZ.out.s2 HZ.out.s4 HZ.out.t2 (by have := HZ.out.l2; have := HEN.out; omega) (by have := HZ.out.l4; omega) md en b (by have := HLC.out; have := HEN.out; have := HN.out; rw [List.length_append]; omega) (by have := HZ.out.l2; have := HEN.out; omega) (by have := HZ.out.l4; have := HEN.out; omega)) (fun V7 hV7 => ?_)
        simp only [pu]
        apply wpList_nil
        have HR3 := Lib.hid hV7
        clear hV7
        have HEE : Hid (∃ C, Srt (A ++ E) C ∧ SW w0 B g n c bs (P ++ (C ++ S)) V7) := Lib.hid (by
         obtain ⟨C2, hC2, hS4⟩ := HR3.out
         have h5 := srt_app HC1.out hC2 HZ.out.cr
         exact ⟨C1 ++ C2, ⟨h5.1.trans HZ.out.pm, h5.2⟩, HON.out _ _ (by rw [List.append_assoc C1, ← List.append_assoc P]; exact hS4)⟩)
        clear HR3
        go_wp2_with fail
        go_end0
        exact ⟨rfl, HEE.out⟩
       ·skip
        by_cases k4 : md < en
        ·skip
         go_upto_region 44 with fail
         refine wl <| gz2 (.int .i64 md) (.int .i64 en) <| gzb (lss_n rfl (md) (en) dT) <| gz3 (.bool true) (.int .i64 en) (.int .i64 b) <|
          gzb (lss_n rfl (en) (b) dF) <| gz1 (.bool false) <| wn ?_
         simp only [pu]
         have hnil : E2 = [] := List.length_eq_zero_iff.1 (by have := HZ.out.l2; have := HZ.out.l4; have := HEN.out; have := HN.out; omega)
         have HR3 : Hid (∃ C, Srt (A2 ++ E2) C ∧ SW W1 B g n c bs ((P ++ C1) ++ (C ++ S)) wr) := Lib.hid ⟨A2 ++ E2, srt_refl (by rw [hnil]; simp; exact HZ.out.s2), by rw [List.append_assoc A2]; exact HS3.out⟩
         clear hnil
         have HEE : Hid (∃ C, Srt (A ++ E) C ∧ SW w0 B g n c bs (P ++ (C ++ S)) wr) := Lib.hid (by
          obtain ⟨C2, hC2, hS4⟩ := HR3.out
          have h5 := srt_app HC1.out hC2 HZ.out.cr
          exact ⟨C1 ++ C2, ⟨h5.1.trans HZ.out.pm, h5.2⟩, HON.out _ _ (by rw [List.append_assoc C1, ← List.append_assoc P]; exact hS4)⟩)
         clear HR3
         go_wp2_with fail
         go_end0
         exact ⟨rfl, HEE.out⟩
        ·skip
         go_upto_region 44 with fail
         refine wl <| gz2 (.int .i64 md) (.int .i64 en) <| gzb (lss_n rfl (md) (en) dF) <| gz5 (.bool false) undef undef undef (.bool false) <| wn ?_
         simp only [pu]
         have hnil : A2 = [] := List.length_eq_zero_iff.1 (by have := HZ.out.l2; have := HZ.out.l4; have := HEN.out; have := HN.out; omega)
         have HR3 : Hid (∃ C, Srt (A2 ++ E2) C ∧ SW W1 B g n c bs ((P ++ C1) ++ (C ++ S)) wr) := Lib.hid ⟨A2 ++ E2, srt_refl (by rw [hnil]; simp; exact HZ.out.s4), by rw [List.append_assoc A2]; exact HS3.out⟩
         clear hnil
         have HEE : Hid (∃ C, Srt (A ++ E) C ∧ SW w0 B g n c bs (P ++ (C ++ S)) wr) := Lib.hid (by
          obtain ⟨C2, hC2, hS4⟩ := HR3.out
          have h5 := srt_app HC1.out hC2 HZ.out.cr
          exact ⟨C1 ++ C2, ⟨h5.1.trans HZ.out.pm, h5.2⟩, HON.out _ _ (by rw [List.append_assoc C1, ← List.append_assoc P]; exact hS4)⟩)
         clear HR3
         go_wp2_with fail
         go_end0
         exact ⟨rfl, HEE.out⟩
    ·skip
     go_upto_region 40 with fail
     refine wl <| gz2 (.int .i64 r) (.int .i64 m) <| gzb (lss_n rfl (r) (m) dF) <| gz5 (.bool false) undef undef undef (.bool false) <| wn ?_
     simp only [pu]
     have hnil : A2 = [] := List.length_eq_zero_iff.1 (by have := HZ.out.l2; have := HZ.out.l3; have := HEN.out; have := HN.out; omega)
     have HR1 : Hid (SW W1 B g n c bs (P ++ (A1 ++ (E1 ++ (A2 ++ (E2 ++ S))))) wr) := Lib.hid (by have := HS1.out; rw [hnil, List.append_assoc] at this; rw [hnil]; exact this)
     clear hnil HS1
     by_cases k2 : a < r ∧ r < md
     ·skip
      go_upto_region 42 with fail
      refine wl <| gz2 (.int .i64 a) (.int .i64 r) <| gzb (lss_n rfl (a) (r) dT) <| gz3 (.bool true) (.int .i64 r) (.int .i64 md) <|
       gzb (lss_n rfl (r) (md) dT) <| gz1 (.bool true) <| wn ?_
      simp only [pu]
      go_upto_region 43 with fail
      refine wl <| gzl rfl ⟨g4, 0, none⟩ (.agg (lsA bs g n c)) (load_ls (HLS.out _ _ HR1.out)) <| gz3 (.int .i64 a) (.int .i64 r) (.int .i64 md) <|
       gzc (.tuple #[]) (fun w' => ∃ C, Srt (A1 ++ E1) C ∧ SW W1 B g n c bs (P ++ (C ++ (A2 ++ (E2 ++ S)))) w') (HIH.out _ _ _ _ _ _ (by have := HZ.out.l1; have := HZ.out.l3; have := H1.out; have := HEN.out; have := HN.out; have := HM2.out; omega) HR1.out HZ.out.s1 HZ.out.s3 HZ.out.t1 (by have := HZ.out.l1; omega) (by have := HZ.out.l3; have := HEN.out; omega) a r md (by have := HN.out; omega) (by have := HZ.out.l1; have := HEN.out; omega) (by have := HZ.out.l3; have := HEN.out; omega)) (fun V5 hV5 => ?_)
      simp only [pu]
      apply wpList_nil
      have HR2 := Lib.hid hV5
      clear hV5 HR1
      obtain ⟨C1, hC1, hS3⟩ := HR2.out
      have hlc := hC1.len
      rw [List.length_append, HZ.out.l1, HZ.out.l3] at hlc
      have HC1 := Lib.hid hC1
      have HLC : Hid (C1.length = r - a + (en - m)) := Lib.hid hlc
      have HS3 : Hid (SW W1 B g n c bs ((P ++ C1) ++ (A2 ++ (E2 ++ S))) V5) := Lib.hid (by rw [List.append_assoc]; exact hS3)
      clear HR2 hC1 hS3 hlc
      by_cases k3 : md < en ∧ en < b
      ·skip
       go_upto_region 44 with fail
       refine wl <| gz2 (.int .i64 md) (.int .i64 en) <| gzb (lss_n rfl (md) (en) dT) <| gz3 (.bool true) (.int .i64 en) (.int .i64 b) <|
        gzb (lss_n rfl (en) (b) dT) <| gz1 (.bool true) <| wn ?_
       simp only [pu]
       go_upto_region 45 with fail
       refine wl <| gzl rfl ⟨g4, 0, none⟩ (.agg (lsA bs g n c)) (load_ls (HLS.out _ _ HS3.out)) <| gz3 (.int .i64 md) (.int .i64 en) (.int .i64 b) <|
        gzc (.tuple #[]) (fun w' => ∃ C, Srt (A2 ++ E2) C ∧ SW W1 B g n c bs ((P ++ C1) ++ (C ++ S)) w') (HIH.out _ _ _ _ _ _ (by have := HZ.out.l2; have := HZ.out.l4; have := H1.out; have := HEN.out; have := HN.out; have := HM2.out; omega) HS3.out HZ.out.s2 HZ.out.s4 HZ.out.t2 (by have := HZ.out.l2; have := HEN.out; omega) (by have := HZ.out.l4; omega) md en b (by have := HLC.out; have := HEN.out; have := HN.out; rw [List.length_append]; omega) (by have := HZ.out.l2; have := HEN.out; omega) (by have := HZ.out.l4; have := HEN.out; omega)) (fun V7 hV7 => ?_)
       simp only [pu]
       apply wpList_nil
       have HR3 := Lib.hid hV7
       clear hV7
       have HEE : Hid (∃ C, Srt (A ++ E) C ∧ SW w0 B g n c bs (P ++ (C ++ S)) V7) := Lib.hid (by
        obtain ⟨C2, hC2, hS4⟩ := HR3.out
        have h5 := srt_app HC1.out hC2 HZ.out.cr
        exact ⟨C1 ++ C2, ⟨h5.1.trans HZ.out.pm, h5.2⟩, HON.out _ _ (by rw [List.append_assoc C1, ← List.append_assoc P]; exact hS4)⟩)
       clear HR3
       go_wp2_with fail
       go_end0
       exact ⟨rfl, HEE.out⟩
      ·skip
       by_cases k4 : md < en
       ·skip
        go_upto_region 44 with fail
        refine wl <| gz2 (.int .i64 md) (.int .i64 en) <| gzb (lss_n rfl (md) (en) dT) <| gz3 (.bool true) (.int .i64 en) (.int .i64 b) <|
         gzb (lss_n rfl (en) (b) dF) <| gz1 (.bool false) <| wn ?_
        simp only [pu]
        have hnil : E2 = [] := List.length_eq_zero_iff.1 (by have := HZ.out.l2; have := HZ.out.l4; have := HEN.out; have := HN.out; omega)
        have HR3 : Hid (∃ C, Srt (A2 ++ E2) C ∧ SW W1 B g n c bs ((P ++ C1) ++ (C ++ S)) V5) := Lib.hid ⟨A2 ++ E2, srt_refl (by rw [hnil]; simp; exact HZ.out.s2), by rw [List.append_assoc A2]; exact HS3.out⟩
        clear hnil
        have HEE : Hid (∃ C, Srt (A ++ E) C ∧ SW w0 B g n c bs (P ++ (C ++ S)) V5) := Lib.hid (by
         obtain ⟨C2, hC2, hS4⟩ := HR3.out
         have h5 := srt_app HC1.out hC2 HZ.out.cr
         exact ⟨C1 ++ C2, ⟨h5.1.trans HZ.out.pm, h5.2⟩, HON.out _ _ (by rw [List.append_assoc C1, ← List.append_assoc P]; exact hS4)⟩)
        clear HR3
        go_wp2_with fail
        go_end0
        exact ⟨rfl, HEE.out⟩
       ·skip
        go_upto_region 44 with fail
        refine wl <| gz2 (.int .i64 md) (.int .i64 en) <| gzb (lss_n rfl (md) (en) dF) <| gz5 (.bool false) undef undef undef (.bool false) <| wn ?_
        simp only [pu]
        have hnil : A2 = [] := List.length_eq_zero_iff.1 (by have := HZ.out.l2; have := HZ.out.l4; have := HEN.out; have := HN.out; omega)
        have HR3 : Hid (∃ C, Srt (A2 ++ E2) C ∧ SW W1 B g n c bs ((P ++ C1) ++ (C ++ S)) V5) := Lib.hid ⟨A2 ++ E2, srt_refl (by rw [hnil]; simp; exact HZ.out.s4), by rw [List.append_assoc A2]; exact HS3.out⟩
        clear hnil
        have HEE : Hid (∃ C, Srt (A ++ E) C ∧ SW w0 B g n c bs (P ++ (C ++ S)) V5) := Lib.hid (by
         obtain ⟨C2, hC2, hS4⟩ := HR3.out
         have h5 := srt_app HC1.out hC2 HZ.out.cr
         exact ⟨C1 ++ C2, ⟨h5.1.trans HZ.out.pm, h5.2⟩, HON.out _ _ (by rw [List.append_assoc C1, ← List.append_assoc P]; exact hS4)⟩)
        clear HR3
        go_wp2_with fail
        go_end0
        exact ⟨rfl, HEE.out⟩
     ·skip
      by_cases k4 : a < r
      ·skip
       go_upto_region 42 with fail
       refine wl <| gz2 (.int .i64 a) (.int .i64 r) <| gzb (lss_n rfl (a) (r) dT) <| gz3 (.bool true) (.int .i64 r) (.int .i64 md) <|
        gzb (lss_n rfl (r) (md) dF) <| gz1 (.bool false) <| wn ?_
       simp only [pu]
       have hnil : E1 = [] := List.length_eq_zero_iff.1 (by have := HZ.out.l1; have := HZ.out.l3; have := HEN.out; have := HN.out; omega)
       have HR2 : Hid (∃ C, Srt (A1 ++ E1) C ∧ SW W1 B g n c bs (P ++ (C ++ (A2 ++ (E2 ++ S)))) wr) := Lib.hid ⟨A1 ++ E1, srt_refl (by rw [hnil]; simp; exact HZ.out.s1), by rw [List.append_assoc A1]; exact HR1.out⟩
       clear hnil HR1
       obtain ⟨C1, hC1, hS3⟩ := HR2.out
       have hlc := hC1.len
       rw [List.length_append, HZ.out.l1, HZ.out.l3] at hlc
       have HC1 := Lib.hid hC1
       have HLC : Hid (C1.length = r - a + (en - m)) := Lib.hid hlc
       have HS3 : Hid (SW W1 B g n c bs ((P ++ C1) ++ (A2 ++ (E2 ++ S))) wr) := Lib.hid (by rw [List.append_assoc]; exact hS3)
       clear HR2 hC1 hS3 hlc
       by_cases k3 : md < en ∧ en < b
       ·skip
        go_upto_region 44 with fail
        refine wl <| gz2 (.int .i64 md) (.int .i64 en) <| gzb (lss_n rfl (md) (en) dT) <| gz3 (.bool true) (.int .i64 en) (.int .i64 b) <|
         gzb (lss_n rfl (en) (b) dT) <| gz1 (.bool true) <| wn ?_
        simp only [pu]
        go_upto_region 45 with fail
        refine wl <| gzl rfl ⟨g4, 0, none⟩ (.agg (lsA bs g n c)) (load_ls (HLS.out _ _ HS3.out)) <| gz3 (.int .i64 md) (.int .i64 en) (.int .i64 b) <|
         gzc (.tuple #[]) (fun w' => ∃ C, Srt (A2 ++ E2) C ∧ SW W1 B g n c bs ((P ++ C1) ++ (C ++ S)) w') (HIH.out _ _ _ _ _ _ (by have := HZ.out.l2; have := HZ.out.l4; have := H1.out; have := HEN.out; have := HN.out; have := HM2.out; omega) HS3.out HZ.out.s2 HZ.out.s4 HZ.out.t2 (by have := HZ.out.l2; have := HEN.out; omega) (by have := HZ.out.l4; omega) md en b (by have := HLC.out; have := HEN.out; have := HN.out; rw [List.length_append]; omega) (by have := HZ.out.l2; have := HEN.out; omega) (by have := HZ.out.l4; have := HEN.out; omega)) (fun V7 hV7 => ?_)
        simp only [pu]
        apply wpList_nil
        have HR3 := Lib.hid hV7
        clear hV7
        have HEE : Hid (∃ C, Srt (A ++ E) C ∧ SW w0 B g n c bs (P ++ (C ++ S)) V7) := Lib.hid (by
         obtain ⟨C2, hC2, hS4⟩ := HR3.out
         have h5 := srt_app HC1.out hC2 HZ.out.cr
         exact ⟨C1 ++ C2, ⟨h5.1.trans HZ.out.pm, h5.2⟩, HON.out _ _ (by rw [List.append_assoc C1, ← List.append_assoc P]; exact hS4)⟩)
        clear HR3
        go_wp2_with fail
        go_end0
        exact ⟨rfl, HEE.out⟩
       ·skip
        by_cases k4 : md < en
        ·skip
         go_upto_region 44 with fail
         refine wl <| gz2 (.int .i64 md) (.int .i64 en) <| gzb (lss_n rfl (md) (en) dT) <| gz3 (.bool true) (.int .i64 en) (.int .i64 b) <|
          gzb (lss_n rfl (en) (b) dF) <| gz1 (.bool false) <| wn ?_
         simp only [pu]
         have hnil : E2 = [] := List.length_eq_zero_iff.1 (by have := HZ.out.l2; have := HZ.out.l4; have := HEN.out; have := HN.out; omega)
         have HR3 : Hid (∃ C, Srt (A2 ++ E2) C ∧ SW W1 B g n c bs ((P ++ C1) ++ (C ++ S)) wr) := Lib.hid ⟨A2 ++ E2, srt_refl (by rw [hnil]; simp; exact HZ.out.s2), by rw [List.append_assoc A2]; exact HS3.out⟩
         clear hnil
         have HEE : Hid (∃ C, Srt (A ++ E) C ∧ SW w0 B g n c bs (P ++ (C ++ S)) wr) := Lib.hid (by
          obtain ⟨C2, hC2, hS4⟩ := HR3.out
          have h5 := srt_app HC1.out hC2 HZ.out.cr
          exact ⟨C1 ++ C2, ⟨h5.1.trans HZ.out.pm, h5.2⟩, HON.out _ _ (by rw [List.append_assoc C1, ← List.append_assoc P]; exact hS4)⟩)
         clear HR3
         go_wp2_with fail
         go_end0
         exact ⟨rfl, HEE.out⟩
        ·skip
         go_upto_region 44 with fail
         refine wl <| gz2 (.int .i64 md) (.int .i64 en) <| gzb (lss_n rfl (md) (en) dF) <| gz5 (.bool false) undef undef undef (.bool false) <| wn ?_
         simp only [pu]
         have hnil : A2 = [] := List.length_eq_zero_iff.1 (by have := HZ.out.l2; have := HZ.out.l4; have := HEN.out; have := HN.out; omega)
         have HR3 : Hid (∃ C, Srt (A2 ++ E2) C ∧ SW W1 B g n c bs ((P ++ C1) ++ (C ++ S)) wr) := Lib.hid ⟨A2 ++ E2, srt_refl (by rw [hnil]; simp; exact HZ.out.s4), by rw [List.append_assoc A2]; exact HS3.out⟩
         clear hnil
         have HEE : Hid (∃ C, Srt (A ++ E) C ∧ SW w0 B g n c bs (P ++ (C ++ S)) wr) := Lib.hid (by
          obtain ⟨C2, hC2, hS4⟩ := HR3.out
          have h5 := srt_app HC1.out hC2 HZ.out.cr
          exact ⟨C1 ++ C2, ⟨h5.1.trans HZ.out.pm, h5.2⟩, HON.out _ _ (by rw [List.append_assoc C1, ← List.append_assoc P]; exact hS4)⟩)
         clear HR3
         go_wp2_with fail
         go_end0
         exact ⟨rfl, HEE.out⟩
      ·skip
       go_upto_region 42 with fail
       refine wl <| gz2 (.int .i64 a) (.int .i64 r) <| gzb (lss_n rfl (a) (r) dF) <| gz5 (.bool false) undef undef undef (.bool false) <| wn ?_
       simp only [pu]
       have hnil : A1 = [] := List.length_eq_zero_iff.1 (by have := HZ.out.l1; have := HZ.out.l3; have := HEN.out; have := HN.out; omega)
       have HR2 : Hid (∃ C, Srt (A1 ++ E1) C ∧ SW W1 B g n c bs (P ++ (C ++ (A2 ++ (E2 ++ S)))) wr) := Lib.hid ⟨A1 ++ E1, srt_refl (by rw [hnil]; simp; exact HZ.out.s3), by rw [List.append_assoc A1]; exact HR1.out⟩
       clear hnil HR1
       obtain ⟨C1, hC1, hS3⟩ := HR2.out
       have hlc := hC1.len
       rw [List.length_append, HZ.out.l1, HZ.out.l3] at hlc
       have HC1 := Lib.hid hC1
       have HLC : Hid (C1.length = r - a + (en - m)) := Lib.hid hlc
       have HS3 : Hid (SW W1 B g n c bs ((P ++ C1) ++ (A2 ++ (E2 ++ S))) wr) := Lib.hid (by rw [List.append_assoc]; exact hS3)
       clear HR2 hC1 hS3 hlc
       by_cases k3 : md < en ∧ en < b
       ·skip
        go_upto_region 44 with fail
        refine wl <| gz2 (.int .i64 md) (.int .i64 en) <| gzb (lss_n rfl (md) (en) dT) <| gz3 (.bool true) (.int .i64 en) (.int .i64 b) <|
         gzb (lss_n rfl (en) (b) dT) <| gz1 (.bool true) <| wn ?_
        simp only [pu]
        go_upto_region 45 with fail
        refine wl <| gzl rfl ⟨g4, 0, none⟩ (.agg (lsA bs g n c)) (load_ls (HLS.out _ _ HS3.out)) <| gz3 (.int .i64 md) (.int .i64 en) (.int .i64 b) <|
         gzc (.tuple #[]) (fun w' => ∃ C, Srt (A2 ++ E2) C ∧ SW W1 B g n c bs ((P ++ C1) ++ (C ++ S)) w') (HIH.out _ _ _ _ _ _ (by have := HZ.out.l2; have := HZ.out.l4; have := H1.out; have := HEN.out; have := HN.out; have := HM2.out; omega) HS3.out HZ.out.s2 HZ.out.s4 HZ.out.t2 (by have := HZ.out.l2; have := HEN.out; omega) (by have := HZ.out.l4; omega) md en b (by have := HLC.out; have := HEN.out; have := HN.out; rw [List.length_append]; omega) (by have := HZ.out.l2; have := HEN.out; omega) (by have := HZ.out.l4; have := HEN.out; omega)) (fun V7 hV7 => ?_)
        simp only [pu]
        apply wpList_nil
        have HR3 := Lib.hid hV7
        clear hV7
        have HEE : Hid (∃ C, Srt (A ++ E) C ∧ SW w0 B g n c bs (P ++ (C ++ S)) V7) := Lib.hid (by
         obtain ⟨C2, hC2, hS4⟩ := HR3.out
         have h5 := srt_app HC1.out hC2 HZ.out.cr
         exact ⟨C1 ++ C2, ⟨h5.1.trans HZ.out.pm, h5.2⟩, HON.out _ _ (by rw [List.append_assoc C1, ← List.append_assoc P]; exact hS4)⟩)
        clear HR3
        go_wp2_with fail
        go_end0
        exact ⟨rfl, HEE.out⟩
       ·skip
        by_cases k4 : md < en
        ·skip
         go_upto_region 44 with fail
         refine wl <| gz2 (.int .i64 md) (.int .i64 en) <| gzb (lss_n rfl (md) (en) dT) <| gz3 (.bool true) (.int .i64 en) (.int .i64 b) <|
          gzb (lss_n rfl (en) (b) dF) <| gz1 (.bool false) <| wn ?_
         simp only [pu]
         have hnil : E2 = [] := List.length_eq_zero_iff.1 (by have := HZ.out.l2; have := HZ.out.l4; have := HEN.out; have := HN.out; omega)
         have HR3 : Hid (∃ C, Srt (A2 ++ E2) C ∧ SW W1 B g n c bs ((P ++ C1) ++ (C ++ S)) wr) := Lib.hid ⟨A2 ++ E2, srt_refl (by rw [hnil]; simp; exact HZ.out.s2), by rw [List.append_assoc A2]; exact HS3.out⟩
         clear hnil
         have HEE : Hid (∃ C, Srt (A ++ E) C ∧ SW w0 B g n c bs (P ++ (C ++ S)) wr) := Lib.hid (by
          obtain ⟨C2, hC2, hS4⟩ := HR3.out
          have h5 := srt_app HC1.out hC2 HZ.out.cr
          exact ⟨C1 ++ C2, ⟨h5.1.trans HZ.out.pm, h5.2⟩, HON.out _ _ (by rw [List.append_assoc C1, ← List.append_assoc P]; exact hS4)⟩)
         clear HR3
         go_wp2_with fail
         go_end0
         exact ⟨rfl, HEE.out⟩
        ·skip
         go_upto_region 44 with fail
         refine wl <| gz2 (.int .i64 md) (.int .i64 en) <| gzb (lss_n rfl (md) (en) dF) <| gz5 (.bool false) undef undef undef (.bool false) <| wn ?_
         simp only [pu]
         have hnil : A2 = [] := List.length_eq_zero_iff.1 (by have := HZ.out.l2; have := HZ.out.l4; have := HEN.out; have := HN.out; omega)
         have HR3 : Hid (∃ C, Srt (A2 ++ E2) C ∧ SW W1 B g n c bs ((P ++ C1) ++ (C ++ S)) wr) := Lib.hid ⟨A2 ++ E2, srt_refl (by rw [hnil]; simp; exact HZ.out.s4), by rw [List.append_assoc A2]; exact HS3.out⟩
         clear hnil
         have HEE : Hid (∃ C, Srt (A ++ E) C ∧ SW w0 B g n c bs (P ++ (C ++ S)) wr) := Lib.hid (by
          obtain ⟨C2, hC2, hS4⟩ := HR3.out
          have h5 := srt_app HC1.out hC2 HZ.out.cr
          exact ⟨C1 ++ C2, ⟨h5.1.trans HZ.out.pm, h5.2⟩, HON.out _ _ (by rw [List.append_assoc C1, ← List.append_assoc P]; exact hS4)⟩)
         clear HR3
         go_wp2_with fail
         go_end0
         exact ⟨rfl, HEE.out⟩
set_option maxRecDepth 100000 in
set_option maxHeartbeats 8000000 in
theorem q_sym4 {w0 w : World} {B g n c bs : Nat} {P A E S : List Tg} (h : SW w0 B g n c bs (P ++ (A ++ (E ++ S))) w) (hn : n < 1152921504606846976) (hA : A.Pairwise T3) (hE : E.Pairwise T3) (ht : Lt2 A E) (a m b : Nat) (ha : a = P.length) (hm : m = a + A.length) (hb : b = m + E.length) {N : Nat} (IH : SymQ B g n c bs N) (hNN : A.length + E.length ≤ N + 1) (h1A : 1 < A.length) (h1E : 1 < E.length) (md : Nat) (hmd : (a + b) / 2 = md) (hbig : m ≤ md) : Calls Try.prog 51 #[.agg (lsA bs g n c), .int .i64 a, .int .i64 m, .int .i64 b] w fun e w' => e = .returned (.tuple #[]) ∧ ∃ C, Srt (A ++ E) C ∧ SW w0 B g n c bs (P ++ (C ++ S)) w' := by
 have hle := h.len
 simp only [List.length_append] at hle
 obtain ⟨L, hL⟩ : ∃ L, P ++ (A ++ (E ++ S)) = L := ⟨_, rfl⟩
 have hgA : ∀ q, a ≤ q → q < m → L.getD q zT = A.getD (q - a) zT := fun q h1 h2 => by
  have := gA P A (E ++ S) (q - a) (by omega)
  rwa [hL, show P.length + (q - a) = q by omega] at this
 have hgE : ∀ q, m ≤ q → q < b → L.getD q zT = E.getD (q - m) zT := fun q h1 h2 => by
  have := gB P A E S (q - m) (by omega)
  rwa [hL, show P.length + A.length + (q - m) = q by omega] at this
 have HGA := Lib.hid hgA
 have HGE := Lib.hid hgE
 have HLL := Lib.hid hL
 have HN : Hid (n < 1152921504606846976 ∧ b ≤ n ∧ a < m ∧ m < b ∧ P.length = a ∧ A.length = m - a ∧ E.length = b - m) := Lib.hid ⟨hn, by omega, by omega, by omega, by omega, by omega, by omega⟩
 have HA := Lib.hid hA
 have HE := Lib.hid hE
 have HT := Lib.hid ht
 have H1 : Hid (a + 1 < m ∧ m + 1 < b ∧ b - a ≤ N + 1) := Lib.hid (by omega)
 have HMD := Lib.hid hmd
 have HM2 : Hid (a < md ∧ md < b ∧ md + m < n + n ∧ 2 * md ≤ a + b ∧ a + b ≤ 2 * md + 1) := Lib.hid (by omega)
 have HIH := Lib.hid (fun (w0 w : World) (P A E S : List Tg) => @IH w0 w P A E S)
 rw [hL] at h
 clear IH hNN hmd hn hL hle ha hm hb hA hE ht hgA hgE h1A h1E
 go_enter Try.func51, Try.ntmps51
 go_upto_region 1 with fail
 change Code.wp _ _ _ _ (w.alloc (.cells (lsA bs g n c) 78))
 have hX4 : Bx (w.alloc (.cells (lsA bs g n c) 78)) w.heap.size (lsA bs g n c) 78 := heap_alloc_last w _
 have hA := h.alloc (.cells (lsA bs g n c) 78)
 have hgl := h.gl
 clear h
 generalize w.alloc (.cells (lsA bs g n c) 78) = W1 at *
 obtain ⟨g4, hg4⟩ : ∃ q, w.heap.size = q := ⟨_, rfl⟩
 rw [hg4] at hX4 hgl
 simp only [hg4]
 have HON : Hid (∀ U L', SW W1 B g n c bs L' U → SW w0 B g n c bs L' U) := Lib.hid fun U L' hU => hU.on hA.but
 have HLS : Hid (∀ U L', SW W1 B g n c bs L' U → Bx U g4 (lsA bs g n c) 78) := Lib.hid fun U L' hU => hU.box hX4 (by omega)
 have HS0 : Hid (SW W1 B g n c bs L W1) := Lib.hid hA.rebase
 clear hX4 hA hgl hg4
 refine wl <| gz2 (.int .i64 m) (.int .i64 a) <| gzw (.int .i64 ((m - a : Nat) : Int)) (sub_nn rfl (m) (a) (by have := HN.out; omega) (by have := HN.out; omega)) <|
  gzb (eql_n rfl (((m - a : Nat) : Int)) (1) (decide_eq_false (by have := H1.out; omega))) <| wn ?_
 simp only [pu]
 go_upto_region 13 with fail
 refine wl <| gz2 (.int .i64 b) (.int .i64 m) <| gzw (.int .i64 ((b - m : Nat) : Int)) (sub_nn rfl (b) (m) (by have := HN.out; omega) (by have := HN.out; omega)) <|
  gzb (eql_n rfl (((b - m : Nat) : Int)) (1) (decide_eq_false (by have := H1.out; omega))) <| wn ?_
 simp only [pu]
 go_upto_region 25 with fail
 refine wl <| gz2 (.int .i64 a) (.int .i64 b) <| gzw (.int .i64 ((a + b : Nat) : Int)) (add_nn rfl (a) (b) (by have := HN.out; omega)) <| gzv (.int .u64 ((a + b : Nat) : Int)) (cv_iu rfl (a + b) (by have := HN.out; omega) (by kernel_rfl) _) <|
  gzw (.int .u64 (md : Int)) (shr_q rfl (a + b) md HMD.out (by have := HN.out; omega)) <| gzv (.int .i64 md) (cv_ui rfl md (by have := HN.out; have := HM2.out; omega) (by kernel_rfl) _) <| gz1 (.int .i64 md) <| wn ?_
 simp only [pu]
 go_upto_region 26 with fail
 refine wl <| gz2 (.int .i64 md) (.int .i64 m) <| gzw (.int .i64 ((md + m : Nat) : Int)) (add_nn rfl (md) (m) (by have := HN.out; have := HM2.out; omega)) <| gz1 (.int .i64 ((md + m : Nat) : Int)) <| wn ?_
 simp only [pu]
 go_upto_region 27 with fail
 refine wl <| gz2 (.int .i64 0) (.int .i64 0) <| wn ?_
 simp only [pu]
 go_upto_region 28 with fail
 refine wl <| gz2 (.int .i64 m) (.int .i64 md) <| gzb (gtr_n rfl (m) (md) dF) <| wn ?_
 simp only [pu]
 go_upto_region 31 with fail
 refine wl <| gz2 (.int .i64 a) (.int .i64 a) <| wn ?_
 simp only [pu]
 go_upto_region 32 with fail
 refine wl <| gz2 (.int .i64 m) (.int .i64 m) <| wn ?_
 simp only [pu]
 have HLO : Hid (a ≤ a ∧ m ≤ m ∧ m ≤ md ∧ a ≤ m ∧ md + m ≤ a + b ∧ (a = a ∨ md + m = a + b) ∧ (m = m ∨ m = md)) := Lib.hid (by have := HN.out; have := HM2.out; omega)
 go_upto_region 33 with fail
 refine wl <| gz1 (.int .i64 ((md + m : Nat) : Int)) <| gzw (.int .i64 ((md + m - 1 : Nat) : Int)) (sub_nn rfl (md + m) 1 (by have := HN.out; have := HM2.out; omega) (by have := HN.out; have := HM2.out; omega)) <|
  gz1 (.int .i64 ((md + m - 1 : Nat) : Int)) <| wn ?_
 simp only [pu]
 have HMO : Hid (∀ c c', a ≤ c → c < c' → c' < m → lsT (E.getD (md - 1 - c) zT) (A.getD (c - a) zT) = true → lsT (E.getD (md - 1 - c') zT) (A.getD (c' - a) zT) = true) := Lib.hid fun c c' h1 h2 h3 h4 => by
  have := HN.out; have := HLO.out
  exact t3_ls (pw_at HE.out (by omega) (by omega)) (ls_t3' h4 (pw_at HA.out (by omega) (by omega)))
 go_wp2_with fail
 go_loopg [18, 19] (m - a) (fun gg s18 s19 wx => ∃ (s r : Nat), s18 = .int .i64 s ∧ s19 = .int .i64 r ∧ gg = r - s ∧ Hid (a ≤ s ∧ s ≤ r ∧ r ≤ m) ∧ Hid (SW W1 B g n c bs L wx) ∧ Hid ((∀ c, a ≤ c → c < s → lsT (E.getD (md - 1 - c) zT) (A.getD (c - a) zT) = false) ∧ ∀ c, r ≤ c → c < m → lsT (E.getD (md - 1 - c) zT) (A.getD (c - a) zT) = true))
 case atStart => exact ⟨a, m, rfl, rfl, rfl, Lib.hid (by have := HLO.out; omega), HS0, Lib.hid ⟨fun c h1 h2 => by omega, fun c h1 h2 => by omega⟩⟩
 case round =>
  obtain ⟨s, r, rfl, rfl, hg, HR, HS, HF⟩ := hrel
  clear HS0
  have HGK : Hid (gk = r - s) := Lib.hid hg
  clear hg
  by_cases hlt : s < r
  ·skip
   obtain ⟨cc, hcc⟩ : ∃ q, (s + r) / 2 = q := ⟨_, rfl⟩
   have HH := Lib.hid hcc
   have HHB : Hid (cc < 1152921504606846976 ∧ s ≤ cc ∧ cc < r) := Lib.hid (by have := HR.out; have := HN.out; have := HLO.out; omega)
   have hless := q_less HS.out (i := md + m - 1 - cc) (j := cc) (by have := HHB.out; have := HR.out; have := HN.out; have := HLO.out; have := HM2.out; omega) (by have := HHB.out; have := HR.out; have := HN.out; have := HLO.out; have := HM2.out; omega)
   rw [HGE.out (md + m - 1 - cc) (by have := HHB.out; have := HR.out; have := HN.out; have := HLO.out; have := HM2.out; omega) (by have := HHB.out; have := HR.out; have := HN.out; have := HLO.out; have := HM2.out; omega), HGA.out cc (by have := HHB.out; have := HR.out; have := HN.out; have := HLO.out; have := HM2.out; omega) (by have := HHB.out; have := HR.out; have := HN.out; have := HLO.out; have := HM2.out; omega), show md + m - 1 - cc - m = md - 1 - cc by have := HHB.out; have := HR.out; have := HN.out; have := HLO.out; have := HM2.out; omega] at hless
   clear hcc
   go_upto_region 34 with fail
   refine wl <| gz2 (.int .i64 s) (.int .i64 r) <| gzb (lss_n rfl (s) (r) dT) <| wn ?_
   simp only [pu]
   go_upto_region 35 with fail
   refine wl <| gz2 (.int .i64 s) (.int .i64 r) <| gzw (.int .i64 ((s + r : Nat) : Int)) (add_nn rfl (s) (r) (by have := HR.out; have := HN.out; have := HLO.out; omega)) <|
    gzv (.int .u64 ((s + r : Nat) : Int)) (cv_iu rfl (s + r) (by have := HR.out; have := HN.out; have := HLO.out; omega) (by kernel_rfl) _) <| gzw (.int .u64 (cc : Int)) (shr_q rfl (s + r) cc HH.out (by have := HR.out; have := HN.out; have := HLO.out; omega)) <|
    gzv (.int .i64 cc) (cv_ui rfl cc (by have := HHB.out; omega) (by kernel_rfl) _) <| gz1 (.int .i64 cc) <| wn ?_
   simp only [pu]
   cases hl : lsT (E.getD (md - 1 - cc) zT) (A.getD (cc - a) zT) with
   | true =>
    rw [hl] at hless
    go_upto_region 36 with fail
    refine wl <| gz1 (.pointer (some ⟨g4, 0, none⟩)) <| gzl rfl ⟨g4, 0, none⟩ (lsV bs) (rg_cell (bx_range (cs := [lsV bs, swV g n c]) (HLS.out _ _ HS.out)) (j := 0) rfl (by kernel_rfl)) <| gz2 (.int .i64 ((md + m - 1 : Nat) : Int)) (.int .i64 cc) <|
     gzw (.int .i64 ((md + m - 1 - cc : Nat) : Int)) (sub_nn rfl (md + m - 1) cc (by have := HHB.out; have := HR.out; have := HN.out; have := HLO.out; have := HM2.out; omega) (by have := HHB.out; have := HR.out; have := HN.out; have := HLO.out; have := HM2.out; omega)) <|
     gz1 (.int .i64 cc) <| gzc (.bool true) (fun w' => Below wr.heap.size wr w') (hless) (fun V2 hV2 => ?_)
    simp only [pu]
    refine gz1 (.bool false) <| wn ?_
    simp only [pu]
    have HS2 := Lib.hid (HS.out.below hV2)
    clear hV2 hless HS
    have HF2 : Hid ((∀ c, a ≤ c → c < s → lsT (E.getD (md - 1 - c) zT) (A.getD (c - a) zT) = false) ∧ ∀ c, cc ≤ c → c < m → lsT (E.getD (md - 1 - c) zT) (A.getD (c - a) zT) = true) := Lib.hid ⟨HF.out.1, fun c h0 h => by
     rcases Nat.lt_or_ge cc c with h1 | h1
     ·exact HMO.out cc c (by have := HHB.out; have := HR.out; omega) h1 h hl
     ·obtain rfl : c = cc := by omega
      exact hl⟩
    go_upto_region 38 with fail
    refine wl <| gz2 (.int .i64 cc) (.int .i64 cc) <| wn ?_
    simp only [pu]
    go_wp2_with fail
    go_roundg (cc - s)
    case measure => have := HGK.out; have := HHB.out; omega
    case rel => exact ⟨s, cc, rfl, rfl, rfl, Lib.hid (by have := HHB.out; have := HR.out; omega), HS2, HF2⟩
   | false =>
    rw [hl] at hless
    go_upto_region 36 with fail
    refine wl <| gz1 (.pointer (some ⟨g4, 0, none⟩)) <| gzl rfl ⟨g4, 0, none⟩ (lsV bs) (rg_cell (bx_range (cs := [lsV bs, swV g n c]) (HLS.out _ _ HS.out)) (j := 0) rfl (by kernel_rfl)) <| gz2 (.int .i64 ((md + m - 1 : Nat) : Int)) (.int .i64 cc) <|
     gzw (.int .i64 ((md + m - 1 - cc : Nat) : Int)) (sub_nn rfl (md + m - 1) cc (by have := HHB.out; have := HR.out; have := HN.out; have := HLO.out; have := HM2.out; omega) (by have := HHB.out; have := HR.out; have := HN.out; have := HLO.out; have := HM2.out; omega)) <|
     gz1 (.int .i64 cc) <| gzc (.bool false) (fun w' => Below wr.heap.size wr w') (hless) (fun V2 hV2 => ?_)
    simp only [pu]
    refine gz1 (.bool true) <| wn ?_
    simp only [pu]
    have HS2 := Lib.hid (HS.out.below hV2)
    clear hV2 hless HS
    have HF2 : Hid ((∀ c, a ≤ c → c < cc + 1 → lsT (E.getD (md - 1 - c) zT) (A.getD (c - a) zT) = false) ∧ ∀ c, r ≤ c → c < m → lsT (E.getD (md - 1 - c) zT) (A.getD (c - a) zT) = true) := Lib.hid ⟨fun c h0 h => by
     cases hq : lsT (E.getD (md - 1 - c) zT) (A.getD (c - a) zT) with
     | false => rfl
     | true =>
      rcases Nat.lt_or_ge c cc with h1 | h1
      ·exact absurd (hl.symm.trans (HMO.out c cc h0 h1 (by have := HHB.out; have := HR.out; omega) hq)) (by decide)
      ·obtain rfl : c = cc := by omega
       exact absurd (hl.symm.trans hq) (by decide), HF.out.2⟩
    go_upto_region 37 with fail
    refine wl <| gz1 (.int .i64 cc) <| gzw (.int .i64 (cc + 1 : Nat)) (add_nn rfl cc 1 (by have := HHB.out; omega)) <| gz1 (.int .i64 (cc + 1 : Nat)) <| wn ?_
    simp only [pu]
    go_wp2_with fail
    go_roundg (r - (cc + 1))
    case measure => have := HGK.out; have := HHB.out; omega
    case rel => exact ⟨cc + 1, r, rfl, rfl, rfl, Lib.hid (by have := HHB.out; have := HR.out; omega), HS2, HF2⟩
  ·skip
   obtain rfl : r = s := by have := HR.out; omega
   go_upto_region 34 with fail
   refine wl <| gz2 (.int .i64 r) (.int .i64 r) <| gzb (lss_n rfl (r) (r) dF) <| wn ?_
   simp only [pu]
   obtain ⟨en, hen⟩ : ∃ q, md + m - r = q := ⟨_, rfl⟩
   have HEN : Hid (en + r = md + m ∧ m ≤ en ∧ en ≤ b ∧ a ≤ r ∧ r ≤ m ∧ r ≤ md ∧ md ≤ en) := Lib.hid (by have := HR.out; have := HN.out; have := HLO.out; have := HM2.out; omega)
   obtain ⟨A1, A2, E1, E2, hz4⟩ := sym_four HLL.out HA.out HE.out HT.out (a := a) (m := m) (b := b) (md := md) (s := r) (en := en) HN.out.2.2.2.2.2.1 HN.out.2.2.2.2.2.2 (by have := HEN.out; omega) (by have := HEN.out; omega) (by have := HEN.out; omega) (by have := HEN.out; omega) (by have := HEN.out; omega) (by have := HN.out; omega)
    (sym_at HA.out HE.out HT.out (lo := a) (hi := m) HN.out.2.2.2.2.2.1 HN.out.2.2.2.2.2.2 (by have := HEN.out; omega) (by have := HEN.out; omega) (by have := HEN.out; omega) (by have := HEN.out; omega) HR.out.1 HR.out.2.2 (by have := HLO.out; omega) (by have := HLO.out; omega) HF.out.1 HF.out.2 (by have := HN.out; omega))
   have HZ := Lib.hid hz4
   have HS1 : Hid (SW W1 B g n c bs ((P ++ A1) ++ (A2 ++ (E1 ++ (E2 ++ S)))) wr) := Lib.hid (by rw [List.append_assoc, ← hz4.eL]; exact HS.out)
   clear hz4 HS HF HMO HGK
   go_upto_region 39 with fail
   refine wl <| gz2 (.int .i64 ((md + m : Nat) : Int)) (.int .i64 r) <| gzv (.int .i64 en) (by rw [← hen]; exact sub_nn rfl (md + m) r (by have := HEN.out; omega) (by have := HN.out; have := HM2.out; omega) (by kernel_rfl) (by kernel_rfl) _) <| gz1 (.int .i64 en) <| wn ?_
   simp only [pu]
   clear hen
   by_cases k1 : r < m ∧ m < en
   ·skip
    go_upto_region 40 with fail
    refine wl <| gz2 (.int .i64 r) (.int .i64 m) <| gzb (lss_n rfl (r) (m) dT) <| gz3 (.bool true) (.int .i64 m) (.int .i64 en) <|
     gzb (lss_n rfl (m) (en) dT) <| gz1 (.bool true) <| wn ?_
    simp only [pu]
    go_upto_region 41 with fail
    refine wl <| gzl rfl ⟨g4, 0, none⟩ (.agg (lsA bs g n c)) (load_ls (HLS.out _ _ HS1.out)) <| gz3 (.int .i64 r) (.int .i64 m) (.int .i64 en) <|
     gzc (.tuple #[]) (fun w' => SW W1 B g n c bs ((P ++ A1) ++ (E1 ++ (A2 ++ (E2 ++ S)))) w') (q_rot HS1.out HN.out.1 (by have := HZ.out.l2; omega) (by have := HZ.out.l3; omega) r m en (by have := HZ.out.l1; have := HEN.out; have := HN.out; rw [List.length_append]; omega) (by have := HZ.out.l2; have := HEN.out; omega) (by have := HZ.out.l3; have := HEN.out; omega)) (fun V3 hV3 => ?_)
    simp only [pu]
    apply wpList_nil
    have HR1 : Hid (SW W1 B g n c bs (P ++ (A1 ++ (E1 ++ (A2 ++ (E2 ++ S))))) V3) := Lib.hid (by rw [List.append_assoc] at hV3; exact hV3)
    clear hV3 HS1
    by_cases k2 : a < r ∧ r < md
    ·skip
     go_upto_region 42 with fail
     refine wl <| gz2 (.int .i64 a) (.int .i64 r) <| gzb (lss_n rfl (a) (r) dT) <| gz3 (.bool true) (.int .i64 r) (.int .i64 md) <|
      gzb (lss_n rfl (r) (md) dT) <| gz1 (.bool true) <| wn ?_
     simp only [pu]
     go_upto_region 43 with fail
     refine wl <| gzl rfl ⟨g4, 0, none⟩ (.agg (lsA bs g n c)) (load_ls (HLS.out _ _ HR1.out)) <| gz3 (.int .i64 a) (.int .i64 r) (.int .i64 md) <|
      gzc (.tuple #[]) (fun w' => ∃ C, Srt (A1 ++ E1) C ∧ SW W1 B g n c bs (P ++ (C ++ (A2 ++ (E2 ++ S)))) w') (HIH.out _ _ _ _ _ _ (by have := HZ.out.l1; have := HZ.out.l3; have := H1.out; have := HEN.out; have := HN.out; have := HM2.out; omega) HR1.out HZ.out.s1 HZ.out.s3 HZ.out.t1 (by have := HZ.out.l1; omega) (by have := HZ.out.l3; have := HEN.out; omega) a r md (by have := HN.out; omega) (by have := HZ.out.l1; have := HEN.out; omega) (by have := HZ.out.l3; have := HEN.out; omega)) (fun V5 hV5 => ?_)
     simp only [pu]
     apply wpList_nil
     have HR2 := Lib.hid hV5
     clear hV5 HR1
     obtain ⟨C1, hC1, hS3⟩ := HR2.out
     have hlc := hC1.len
     rw [List.length_append, HZ.out.l1, HZ.out.l3] at hlc
     have HC1 := Lib.hid hC1
     have HLC : Hid (C1.length = r - a + (en - m)) := Lib.hid hlc
     have HS3 : Hid (SW W1 B g n c bs ((P ++ C1) ++ (A2 ++ (E2 ++ S))) V5) := Lib.hid (by rw [List.append_assoc]; exact hS3)
     clear HR2 hC1 hS3 hlc
     by_cases k3 : md < en ∧ en < b
     ·skip
      go_upto_region 44 with fail
      refine wl <| gz2 (.int .i64 md) (.int .i64 en) <| gzb (lss_n rfl (md) (en) dT) <| gz3 (.bool true) (.int .i64 en) (.int .i64 b) <|
       gzb (lss_n rfl (en) (b) dT) <| gz1 (.bool true) <| wn ?_
      simp only [pu]
      go_upto_region 45 with fail
      refine wl <| gzl rfl ⟨g4, 0, none⟩ (.agg (lsA bs g n c)) (load_ls (HLS.out _ _ HS3.out)) <| gz3 (.int .i64 md) (.int .i64 en) (.int .i64 b) <|
       gzc (.tuple #[]) (fun w' => ∃ C, Srt (A2 ++ E2) C ∧ SW W1 B g n c bs ((P ++ C1) ++ (C ++ S)) w') (HIH.out _ _ _ _ _ _ (by have := HZ.out.l2; have := HZ.out.l4; have := H1.out; have := HEN.out; have := HN.out; have := HM2.out; omega) HS3.out HZ.out.s2 HZ.out.s4 HZ.out.t2 (by have := HZ.out.l2; have := HEN.out; omega) (by have := HZ.out.l4; omega) md en b (by have := HLC.out; have := HEN.out; have := HN.out; rw [List.length_append]; omega) (by have := HZ.out.l2; have := HEN.out; omega) (by have := HZ.out.l4; have := HEN.out; omega)) (fun V7 hV7 => ?_)
      simp only [pu]
      apply wpList_nil
      have HR3 := Lib.hid hV7
      clear hV7
      have HEE : Hid (∃ C, Srt (A ++ E) C ∧ SW w0 B g n c bs (P ++ (C ++ S)) V7) := Lib.hid (by
       obtain ⟨C2, hC2, hS4⟩ := HR3.out
       have h5 := srt_app HC1.out hC2 HZ.out.cr
       exact ⟨C1 ++ C2, ⟨h5.1.trans HZ.out.pm, h5.2⟩, HON.out _ _ (by rw [List.append_assoc C1, ← List.append_assoc P]; exact hS4)⟩)
      clear HR3
      go_wp2_with fail
      go_end0
      exact ⟨rfl, HEE.out⟩
     ·skip
      by_cases k4 : md < en
      ·skip
       go_upto_region 44 with fail
       refine wl <| gz2 (.int .i64 md) (.int .i64 en) <| gzb (lss_n rfl (md) (en) dT) <| gz3 (.bool true) (.int .i64 en) (.int .i64 b) <|
        gzb (lss_n rfl (en) (b) dF) <| gz1 (.bool false) <| wn ?_
       simp only [pu]
       have hnil : E2 = [] := List.length_eq_zero_iff.1 (by have := HZ.out.l2; have := HZ.out.l4; have := HEN.out; have := HN.out; omega)
       have HR3 : Hid (∃ C, Srt (A2 ++ E2) C ∧ SW W1 B g n c bs ((P ++ C1) ++ (C ++ S)) V5) := Lib.hid ⟨A2 ++ E2, srt_refl (by rw [hnil]; simp; exact HZ.out.s2), by rw [List.append_assoc A2]; exact HS3.out⟩
       clear hnil
       have HEE : Hid (∃ C, Srt (A ++ E) C ∧ SW w0 B g n c bs (P ++ (C ++ S)) V5) := Lib.hid (by
        obtain ⟨C2, hC2, hS4⟩ := HR3.out
        have h5 := srt_app HC1.out hC2 HZ.out.cr
        exact ⟨C1 ++ C2, ⟨h5.1.trans HZ.out.pm, h5.2⟩, HON.out _ _ (by rw [List.append_assoc C1, ← List.append_assoc P]; exact hS4)⟩)
       clear HR3
       go_wp2_with fail
       go_end0
       exact ⟨rfl, HEE.out⟩
      ·skip
       go_upto_region 44 with fail
       refine wl <| gz2 (.int .i64 md) (.int .i64 en) <| gzb (lss_n rfl (md) (en) dF) <| gz5 (.bool false) undef undef undef (.bool false) <| wn ?_
       simp only [pu]
       have hnil : A2 = [] := List.length_eq_zero_iff.1 (by have := HZ.out.l2; have := HZ.out.l4; have := HEN.out; have := HN.out; omega)
       have HR3 : Hid (∃ C, Srt (A2 ++ E2) C ∧ SW W1 B g n c bs ((P ++ C1) ++ (C ++ S)) V5) := Lib.hid ⟨A2 ++ E2, srt_refl (by rw [hnil]; simp; exact HZ.out.s4), by rw [List.append_assoc A2]; exact HS3.out⟩
       clear hnil
       have HEE : Hid (∃ C, Srt (A ++ E) C ∧ SW w0 B g n c bs (P ++ (C ++ S)) V5) := Lib.hid (by
        obtain ⟨C2, hC2, hS4⟩ := HR3.out
        have h5 := srt_app HC1.out hC2 HZ.out.cr
        exact ⟨C1 ++ C2, ⟨h5.1.trans HZ.out.pm, h5.2⟩, HON.out _ _ (by rw [List.append_assoc C1, ← List.append_assoc P]; exact hS4)⟩)
       clear HR3
       go_wp2_with fail
       go_end0
       exact ⟨rfl, HEE.out⟩
    ·skip
     by_cases k4 : a < r
     ·skip
      go_upto_region 42 with fail
      refine wl <| gz2 (.int .i64 a) (.int .i64 r) <| gzb (lss_n rfl (a) (r) dT) <| gz3 (.bool true) (.int .i64 r) (.int .i64 md) <|
       gzb (lss_n rfl (r) (md) dF) <| gz1 (.bool false) <| wn ?_
      simp only [pu]
      have hnil : E1 = [] := List.length_eq_zero_iff.1 (by have := HZ.out.l1; have := HZ.out.l3; have := HEN.out; have := HN.out; omega)
      have HR2 : Hid (∃ C, Srt (A1 ++ E1) C ∧ SW W1 B g n c bs (P ++ (C ++ (A2 ++ (E2 ++ S)))) V3) := Lib.hid ⟨A1 ++ E1, srt_refl (by rw [hnil]; simp; exact HZ.out.s1), by rw [List.append_assoc A1]; exact HR1.out⟩
      clear hnil HR1
      obtain ⟨C1, hC1, hS3⟩ := HR2.out
      have hlc := hC1.len
      rw [List.length_append, HZ.out.l1, HZ.out.l3] at hlc
      have HC1 := Lib.hid hC1
      have HLC : Hid (C1.length = r - a + (en - m)) := Lib.hid hlc
      have HS3 : Hid (SW W1 B g n c bs ((P ++ C1) ++ (A2 ++ (E2 ++ S))) V3) := Lib.hid (by rw [List.append_assoc]; exact hS3)
      clear HR2 hC1 hS3 hlc
      by_cases k3 : md < en ∧ en < b
      ·skip
       go_upto_region 44 with fail
       refine wl <| gz2 (.int .i64 md) (.int .i64 en) <| gzb (lss_n rfl (md) (en) dT) <| gz3 (.bool true) (.int .i64 en) (.int .i64 b) <|
        gzb (lss_n rfl (en) (b) dT) <| gz1 (.bool true) <| wn ?_
       simp only [pu]
       go_upto_region 45 with fail
       refine wl <| gzl rfl ⟨g4, 0, none⟩ (.agg (lsA bs g n c)) (load_ls (HLS.out _ _ HS3.out)) <| gz3 (.int .i64 md) (.int .i64 en) (.int .i64 b) <|
        gzc (.tuple #[]) (fun w' => ∃ C, Srt (A2 ++ E2) C ∧ SW W1 B g n c bs ((P ++ C1) ++ (C ++ S)) w') (HIH.out _ _ _ _ _ _ (by have := HZ.out.l2; have := HZ.out.l4; have := H1.out; have := HEN.out; have := HN.out; have := HM2.out; omega) HS3.out HZ.out.s2 HZ.out.s4 HZ.out.t2 (by have := HZ.out.l2; have := HEN.out; omega) (by have := HZ.out.l4; omega) md en b (by have := HLC.out; have := HEN.out; have := HN.out; rw [List.length_append]; omega) (by have := HZ.out.l2; have := HEN.out; omega) (by have := HZ.out.l4; have := HEN.out; omega)) (fun V7 hV7 => ?_)
       simp only [pu]
       apply wpList_nil
       have HR3 := Lib.hid hV7
       clear hV7
       have HEE : Hid (∃ C, Srt (A ++ E) C ∧ SW w0 B g n c bs (P ++ (C ++ S)) V7) := Lib.hid (by
        obtain ⟨C2, hC2, hS4⟩ := HR3.out
        have h5 := srt_app HC1.out hC2 HZ.out.cr
        exact ⟨C1 ++ C2, ⟨h5.1.trans HZ.out.pm, h5.2⟩, HON.out _ _ (by rw [List.append_assoc C1, ← List.append_assoc P]; exact hS4)⟩)
       clear HR3
       go_wp2_with fail
       go_end0
       exact ⟨rfl, HEE.out⟩
      ·skip
       by_cases k4 : md < en
       ·skip
        go_upto_region 44 with fail
        refine wl <| gz2 (.int .i64 md) (.int .i64 en) <| gzb (lss_n rfl (md) (en) dT) <| gz3 (.bool true) (.int .i64 en) (.int .i64 b) <|
         gzb (lss_n rfl (en) (b) dF) <| gz1 (.bool false) <| wn ?_
        simp only [pu]
        have hnil : E2 = [] := List.length_eq_zero_iff.1 (by have := HZ.out.l2; have := HZ.out.l4; have := HEN.out; have := HN.out; omega)
        have HR3 : Hid (∃ C, Srt (A2 ++ E2) C ∧ SW W1 B g n c bs ((P ++ C1) ++ (C ++ S)) V3) := Lib.hid ⟨A2 ++ E2, srt_refl (by rw [hnil]; simp; exact HZ.out.s2), by rw [List.append_assoc A2]; exact HS3.out⟩
        clear hnil
        have HEE : Hid (∃ C, Srt (A ++ E) C ∧ SW w0 B g n c bs (P ++ (C ++ S)) V3) := Lib.hid (by
         obtain ⟨C2, hC2, hS4⟩ := HR3.out
         have h5 := srt_app HC1.out hC2 HZ.out.cr
         exact ⟨C1 ++ C2, ⟨h5.1.trans HZ.out.pm, h5.2⟩, HON.out _ _ (by rw [List.append_assoc C1, ← List.append_assoc P]; exact hS4)⟩)
        clear HR3
        go_wp2_with fail
        go_end0
        exact ⟨rfl, HEE.out⟩
       ·skip
        go_upto_region 44 with fail
        refine wl <| gz2 (.int .i64 md) (.int .i64 en) <| gzb (lss_n rfl (md) (en) dF) <| gz5 (.bool false) undef undef undef (.bool false) <| wn ?_
        simp only [pu]
        have hnil : A2 = [] := List.length_eq_zero_iff.1 (by have := HZ.out.l2; have := HZ.out.l4; have := HEN.out; have := HN.out; omega)
        have HR3 : Hid (∃ C, Srt (A2 ++ E2) C ∧ SW W1 B g n c bs ((P ++ C1) ++ (C ++ S)) V3) := Lib.hid ⟨A2 ++ E2, srt_refl (by rw [hnil]; simp; exact HZ.out.s4), by rw [List.append_assoc A2]; exact HS3.out⟩
        clear hnil
        have HEE : Hid (∃ C, Srt (A ++ E) C ∧ SW w0 B g n c bs (P ++ (C ++ S)) V3) := Lib.hid (by
         obtain ⟨C2, hC2, hS4⟩ := HR3.out
         have h5 := srt_app HC1.out hC2 HZ.out.cr
         exact ⟨C1 ++ C2, ⟨h5.1.trans HZ.out.pm, h5.2⟩, HON.out _ _ (by rw [List.append_assoc C1, ← List.append_assoc P]; exact hS4)⟩)
        clear HR3
        go_wp2_with fail
        go_end0
        exact ⟨rfl, HEE.out⟩
     ·skip
      go_upto_region 42 with fail
      refine wl <| gz2 (.int .i64 a) (.int .i64 r) <| gzb (lss_n rfl (a) (r) dF) <| gz5 (.bool false) undef undef undef (.bool false) <| wn ?_
      simp only [pu]
      have hnil : A1 = [] := List.length_eq_zero_iff.1 (by have := HZ.out.l1; have := HZ.out.l3; have := HEN.out; have := HN.out; omega)
      have HR2 : Hid (∃ C, Srt (A1 ++ E1) C ∧ SW W1 B g n c bs (P ++ (C ++ (A2 ++ (E2 ++ S)))) V3) := Lib.hid ⟨A1 ++ E1, srt_refl (by rw [hnil]; simp; exact HZ.out.s3), by rw [List.append_assoc A1]; exact HR1.out⟩
      clear hnil HR1
      obtain ⟨C1, hC1, hS3⟩ := HR2.out
      have hlc := hC1.len
      rw [List.length_append, HZ.out.l1, HZ.out.l3] at hlc
      have HC1 := Lib.hid hC1
      have HLC : Hid (C1.length = r - a + (en - m)) := Lib.hid hlc
      have HS3 : Hid (SW W1 B g n c bs ((P ++ C1) ++ (A2 ++ (E2 ++ S))) V3) := Lib.hid (by rw [List.append_assoc]; exact hS3)
      clear HR2 hC1 hS3 hlc
      by_cases k3 : md < en ∧ en < b
      ·skip
       go_upto_region 44 with fail
       refine wl <| gz2 (.int .i64 md) (.int .i64 en) <| gzb (lss_n rfl (md) (en) dT) <| gz3 (.bool true) (.int .i64 en) (.int .i64 b) <|
        gzb (lss_n rfl (en) (b) dT) <| gz1 (.bool true) <| wn ?_
       simp only [pu]
       go_upto_region 45 with fail
       refine wl <| gzl rfl ⟨g4, 0, none⟩ (.agg (lsA bs g n c)) (load_ls (HLS.out _ _ HS3.out)) <| gz3 (.int .i64 md) (.int .i64 en) (.int .i64 b) <|
        gzc (.tuple #[]) (fun w' => ∃ C, Srt (A2 ++ E2) C ∧ SW W1 B g n c bs ((P ++ C1) ++ (C ++ S)) w') (HIH.out _ _ _ _ _ _ (by have := HZ.out.l2; have := HZ.out.l4; have := H1.out; have := HEN.out; have := HN.out; have := HM2.out; omega) HS3.out HZ.out.s2 HZ.out.s4 HZ.out.t2 (by have := HZ.out.l2; have := HEN.out; omega) (by have := HZ.out.l4; omega) md en b (by have := HLC.out; have := HEN.out; have := HN.out; rw [List.length_append]; omega) (by have := HZ.out.l2; have := HEN.out; omega) (by have := HZ.out.l4; have := HEN.out; omega)) (fun V7 hV7 => ?_)
       simp only [pu]
       apply wpList_nil
       have HR3 := Lib.hid hV7
       clear hV7
       have HEE : Hid (∃ C, Srt (A ++ E) C ∧ SW w0 B g n c bs (P ++ (C ++ S)) V7) := Lib.hid (by
        obtain ⟨C2, hC2, hS4⟩ := HR3.out
        have h5 := srt_app HC1.out hC2 HZ.out.cr
        exact ⟨C1 ++ C2, ⟨h5.1.trans HZ.out.pm, h5.2⟩, HON.out _ _ (by rw [List.append_assoc C1, ← List.append_assoc P]; exact hS4)⟩)
       clear HR3
       go_wp2_with fail
       go_end0
       exact ⟨rfl, HEE.out⟩
      ·skip
       by_cases k4 : md < en
       ·skip
        go_upto_region 44 with fail
        refine wl <| gz2 (.int .i64 md) (.int .i64 en) <| gzb (lss_n rfl (md) (en) dT) <| gz3 (.bool true) (.int .i64 en) (.int .i64 b) <|
         gzb (lss_n rfl (en) (b) dF) <| gz1 (.bool false) <| wn ?_
        simp only [pu]
        have hnil : E2 = [] := List.length_eq_zero_iff.1 (by have := HZ.out.l2; have := HZ.out.l4; have := HEN.out; have := HN.out; omega)
        have HR3 : Hid (∃ C, Srt (A2 ++ E2) C ∧ SW W1 B g n c bs ((P ++ C1) ++ (C ++ S)) V3) := Lib.hid ⟨A2 ++ E2, srt_refl (by rw [hnil]; simp; exact HZ.out.s2), by rw [List.append_assoc A2]; exact HS3.out⟩
        clear hnil
        have HEE : Hid (∃ C, Srt (A ++ E) C ∧ SW w0 B g n c bs (P ++ (C ++ S)) V3) := Lib.hid (by
         obtain ⟨C2, hC2, hS4⟩ := HR3.out
         have h5 := srt_app HC1.out hC2 HZ.out.cr
         exact ⟨C1 ++ C2, ⟨h5.1.trans HZ.out.pm, h5.2⟩, HON.out _ _ (by rw [List.append_assoc C1, ← List.append_assoc P]; exact hS4)⟩)
        clear HR3
        go_wp2_with fail
        go_end0
        exact ⟨rfl, HEE.out⟩
       ·skip
        go_upto_region 44 with fail
        refine wl <| gz2 (.int .i64 md) (.int .i64 en) <| gzb (lss_n rfl (md) (en) dF) <| gz5 (.bool false) undef undef undef (.bool false) <| wn ?_
        simp only [pu]
        have hnil : A2 = [] := List.length_eq_zero_iff.1 (by have := HZ.out.l2; have := HZ.out.l4; have := HEN.out; have := HN.out; omega)
        have HR3 : Hid (∃ C, Srt (A2 ++ E2) C ∧ SW W1 B g n c bs ((P ++ C1) ++ (C ++ S)) V3) := Lib.hid ⟨A2 ++ E2, srt_refl (by rw [hnil]; simp; exact HZ.out.s4), by rw [List.append_assoc A2]; exact HS3.out⟩
        clear hnil
        have HEE : Hid (∃ C, Srt (A ++ E) C ∧ SW w0 B g n c bs (P ++ (C ++ S)) V3) := Lib.hid (by
         obtain ⟨C2, hC2, hS4⟩ := HR3.out
         have h5 := srt_app HC1.out hC2 HZ.out.cr
         exact ⟨C1 ++ C2, ⟨h5.1.trans HZ.out.pm, h5.2⟩, HON.out _ _ (by rw [List.append_assoc C1, ← List.append_assoc P]; exact hS4)⟩)
        clear HR3
        go_wp2_with fail
        go_end0
        exact ⟨rfl, HEE.out⟩
   ·skip
    by_cases k4 : r < m
    ·skip
     go_upto_region 40 with fail
     refine wl <| gz2 (.int .i64 r) (.int .i64 m) <| gzb (lss_n rfl (r) (m) dT) <| gz3 (.bool true) (.int .i64 m) (.int .i64 en) <|
      gzb (lss_n rfl (m) (en) dF) <| gz1 (.bool false) <| wn ?_
     simp only [pu]
     have hnil : E1 = [] := List.length_eq_zero_iff.1 (by have := HZ.out.l2; have := HZ.out.l3; have := HEN.out; have := HN.out; omega)
     have HR1 : Hid (SW W1 B g n c bs (P ++ (A1 ++ (E1 ++ (A2 ++ (E2 ++ S))))) wr) := Lib.hid (by have := HS1.out; rw [hnil, List.append_assoc] at this; rw [hnil]; exact this)
     clear hnil HS1
     by_cases k2 : a < r ∧ r < md
     ·skip
      go_upto_region 42 with fail
      refine wl <| gz2 (.int .i64 a) (.int .i64 r) <| gzb (lss_n rfl (a) (r) dT) <| gz3 (.bool true) (.int .i64 r) (.int .i64 md) <|
       gzb (lss_n rfl (r) (md) dT) <| gz1 (.bool true) <| wn ?_
      simp only [pu]
      go_upto_region 43 with fail
      refine wl <| gzl rfl ⟨g4, 0, none⟩ (.agg (lsA bs g n c)) (load_ls (HLS.out _ _ HR1.out)) <| gz3 (.int .i64 a) (.int .i64 r) (.int .i64 md) <|
       gzc (.tuple #[]) (fun w' => ∃ C, Srt (A1 ++ E1) C ∧ SW W1 B g n c bs (P ++ (C ++ (A2 ++ (E2 ++ S)))) w') (HIH.out _ _ _ _ _ _ (by have := HZ.out.l1; have := HZ.out.l3; have := H1.out; have := HEN.out; have := HN.out; have := HM2.out; omega) HR1.out HZ.out.s1 HZ.out.s3 HZ.out.t1 (by have := HZ.out.l1; omega) (by have := HZ.out.l3; have := HEN.out; omega) a r md (by have := HN.out; omega) (by have := HZ.out.l1; have := HEN.out; omega) (by have := HZ.out.l3; have := HEN.out; omega)) (fun V5 hV5 => ?_)
      simp only [pu]
      apply wpList_nil
      have HR2 := Lib.hid hV5
      clear hV5 HR1
      obtain ⟨C1, hC1, hS3⟩ := HR2.out
      have hlc := hC1.len
      rw [List.length_append, HZ.out.l1, HZ.out.l3] at hlc
      have HC1 := Lib.hid hC1
      have HLC : Hid (C1.length = r - a + (en - m)) := Lib.hid hlc
      have HS3 : Hid (SW W1 B g n c bs ((P ++ C1) ++ (A2 ++ (E2 ++ S))) V5) := Lib.hid (by rw [List.append_assoc]; exact hS3)
      clear HR2 hC1 hS3 hlc
      by_cases k3 : md < en ∧ en < b
      ·skip
       go_upto_region 44 with fail
       refine wl <| gz2 (.int .i64 md) (.int .i64 en) <| gzb (lss_n rfl (md) (en) dT) <| gz3 (.bool true) (.int .i64 en) (.int .i64 b) <|
        gzb (lss_n rfl (en) (b) dT) <| gz1 (.bool true) <| wn ?_
       simp only [pu]
       go_upto_region 45 with fail
       refine wl <| gzl rfl ⟨g4, 0, none⟩ (.agg (lsA bs g n c)) (load_ls (HLS.out _ _ HS3.out)) <| gz3 (.int .i64 md) (.int .i64 en) (.int .i64 b) <|
        gzc (.tuple #[]) (fun w' => ∃ C, Srt (A2 ++ E2) C ∧ SW W1 B g n c bs ((P ++ C1) ++ (C ++ S)) w') (HIH.out _ _ _ _ _ _ (by have := HZ.out.l2; have := HZ.out.l4; have := H1.out; have := HEN.out; have := HN.out; have := HM2.out; omega) HS3.out HZ.out.s2 HZ.out.s4 HZ.out.t2 (by have := HZ.out.l2; have := HEN.out; omega) (by have := HZ.out.l4; omega) md en b (by have := HLC.out; have := HEN.out; have := HN.out; rw [List.length_append]; omega) (by have := HZ.out.l2; have := HEN.out; omega) (by have := HZ.out.l4; have := HEN.out; omega)) (fun V7 hV7 => ?_)
       simp only [pu]
       apply wpList_nil
       have HR3 := Lib.hid hV7
       clear hV7
       have HEE : Hid (∃ C, Srt (A ++ E) C ∧ SW w0 B g n c bs (P ++ (C ++ S)) V7) := Lib.hid (by
        obtain ⟨C2, hC2, hS4⟩ := HR3.out
        have h5 := srt_app HC1.out hC2 HZ.out.cr
        exact ⟨C1 ++ C2, ⟨h5.1.trans HZ.out.pm, h5.2⟩, HON.out _ _ (by rw [List.append_assoc C1, ← List.append_assoc P]; exact hS4)⟩)
       clear HR3
       go_wp2_with fail
       go_end0
       exact ⟨rfl, HEE.out⟩
      ·skip
       by_cases k4 : md < en
       ·skip
        go_upto_region 44 with fail
        refine wl <| gz2 (.int .i64 md) (.int .i64 en) <| gzb (lss_n rfl (md) (en) dT) <| gz3 (.bool true) (.int .i64 en) (.int .i64 b) <|
         gzb (lss_n rfl (en) (b) dF) <| gz1 (.bool false) <| wn ?_
        simp only [pu]
        have hnil : E2 = [] := List.length_eq_zero_iff.1 (by have := HZ.out.l2; have := HZ.out.l4; have := HEN.out; have := HN.out; omega)
        have HR3 : Hid (∃ C, Srt (A2 ++ E2) C ∧ SW W1 B g n c bs ((P ++ C1) ++ (C ++ S)) V5) := Lib.hid ⟨A2 ++ E2, srt_refl (by rw [hnil]; simp; exact HZ.out.s2), by rw [List.append_assoc A2]; exact HS3.out⟩
        clear hnil
        have HEE : Hid (∃ C, Srt (A ++ E) C ∧ SW w0 B g n c bs (P ++ (C ++ S)) V5) := Lib.hid (by
         obtain ⟨C2, hC2, hS4⟩ := HR3.out
         have h5 := srt_app HC1.out hC2 HZ.out.cr
         exact ⟨C1 ++ C2, ⟨h5.1.trans HZ.out.pm, h5.2⟩, HON.out _ _ (by rw [List.append_assoc C1, ← List.append_assoc P]; exact hS4)⟩)
        clear HR3
        go_wp2_with fail
        go_end0
        exact ⟨rfl, HEE.out⟩
       ·skip
        go_upto_region 44 with fail
        refine wl <| gz2 (.int .i64 md) (.int .i64 en) <| gzb (lss_n rfl (md) (en) dF) <| gz5 (.bool false) undef undef undef (.bool false) <| wn ?_
        simp only [pu]
        have hnil : A2 = [] := List.length_eq_zero_iff.1 (by have := HZ.out.l2; have := HZ.out.l4; have := HEN.out; have := HN.out; omega)
        have HR3 : Hid (∃ C, Srt (A2 ++ E2) C ∧ SW W1 B g n c bs ((P ++ C1) ++ (C ++ S)) V5) := Lib.hid ⟨A2 ++ E2, srt_refl (by rw [hnil]; simp; exact HZ.out.s4), by rw [List.append_assoc A2]; exact HS3.out⟩
        clear hnil
        have HEE : Hid (∃ C, Srt (A ++ E) C ∧ SW w0 B g n c bs (P ++ (C ++ S)) V5) := Lib.hid (by
         obtain ⟨C2, hC2, hS4⟩ := HR3.out
         have h5 := srt_app HC1.out hC2 HZ.out.cr
         exact ⟨C1 ++ C2, ⟨h5.1.trans HZ.out.pm, h5.2⟩, HON.out _ _ (by rw [List.append_assoc C1, ← List.append_assoc P]; exact hS4)⟩)
        clear HR3
        go_wp2_with fail
        go_end0
        exact ⟨rfl, HEE.out⟩
     ·skip
      by_cases k4 : a < r
      ·skip
       go_upto_region 42 with fail
       refine wl <| gz2 (.int .i64 a) (.int .i64 r) <| gzb (lss_n rfl (a) (r) dT) <| gz3 (.bool true) (.int .i64 r) (.int .i64 md) <|
        gzb (lss_n rfl (r) (md) dF) <| gz1 (.bool false) <| wn ?_
       simp only [pu]
       have hnil : E1 = [] := List.length_eq_zero_iff.1 (by have := HZ.out.l1; have := HZ.out.l3; have := HEN.out; have := HN.out; omega)
       have HR2 : Hid (∃ C, Srt (A1 ++ E1) C ∧ SW W1 B g n c bs (P ++ (C ++ (A2 ++ (E2 ++ S)))) wr) := Lib.hid ⟨A1 ++ E1, srt_refl (by rw [hnil]; simp; exact HZ.out.s1), by rw [List.append_assoc A1]; exact HR1.out⟩
       clear hnil HR1
       obtain ⟨C1, hC1, hS3⟩ := HR2.out
       have hlc := hC1.len
       rw [List.length_append, HZ.out.l1, HZ.out.l3] at hlc
       have HC1 := Lib.hid hC1
       have HLC : Hid (C1.length = r - a + (en - m)) := Lib.hid hlc
       have HS3 : Hid (SW W1 B g n c bs ((P ++ C1) ++ (A2 ++ (E2 ++ S))) wr) := Lib.hid (by rw [List.append_assoc]; exact hS3)
       clear HR2 hC1 hS3 hlc
       by_cases k3 : md < en ∧ en < b
       ·skip
        go_upto_region 44 with fail
        refine wl <| gz2 (.int .i64 md) (.int .i64 en) <| gzb (lss_n rfl (md) (en) dT) <| gz3 (.bool true) (.int .i64 en) (.int .i64 b) <|
         gzb (lss_n rfl (en) (b) dT) <| gz1 (.bool true) <| wn ?_
        simp only [pu]
        go_upto_region 45 with fail
        refine wl <| gzl rfl ⟨g4, 0, none⟩ (.agg (lsA bs g n c)) (load_ls (HLS.out _ _ HS3.out)) <| gz3 (.int .i64 md) (.int .i64 en) (.int .i64 b) <|
         gzc (.tuple #[]) (fun w' => ∃ C, Srt (A2 ++ E2) C ∧ SW W1 B g n c bs ((P ++ C1) ++ (C ++ S)) w') (HIH.out _ _ _ _ _ _ (by have := HZ.out.l2; have := HZ.out.l4; have := H1.out; have := HEN.out; have := HN.out; have := HM2.out; omega) HS3.out HZ.out.s2 HZ.out.s4 HZ.out.t2 (by have := HZ.out.l2; have := HEN.out; omega) (by have := HZ.out.l4; omega) md en b (by have := HLC.out; have := HEN.out; have := HN.out; rw [List.length_append]; omega) (by have := HZ.out.l2; have := HEN.out; omega) (by have := HZ.out.l4; have := HEN.out; omega)) (fun V7 hV7 => ?_)
        simp only [pu]
        apply wpList_nil
        have HR3 := Lib.hid hV7
        clear hV7
        have HEE : Hid (∃ C, Srt (A ++ E) C ∧ SW w0 B g n c bs (P ++ (C ++ S)) V7) := Lib.hid (by
         obtain ⟨C2, hC2, hS4⟩ := HR3.out
         have h5 := srt_app HC1.out hC2 HZ.out.cr
         exact ⟨C1 ++ C2, ⟨h5.1.trans HZ.out.pm, h5.2⟩, HON.out _ _ (by rw [List.append_assoc C1, ← List.append_assoc P]; exact hS4)⟩)
        clear HR3
        go_wp2_with fail
        go_end0
        exact ⟨rfl, HEE.out⟩
       ·skip
        by_cases k4 : md < en
        ·skip
         go_upto_region 44 with fail
         refine wl <| gz2 (.int .i64 md) (.int .i64 en) <| gzb (lss_n rfl (md) (en) dT) <| gz3 (.bool true) (.int .i64 en) (.int .i64 b) <|
          gzb (lss_n rfl (en) (b) dF) <| gz1 (.bool false) <| wn ?_
         simp only [pu]
         have hnil : E2 = [] := List.length_eq_zero_iff.1 (by have := HZ.out.l2; have := HZ.out.l4; have := HEN.out; have := HN.out; omega)
         have HR3 : Hid (∃ C, Srt (A2 ++ E2) C ∧ SW W1 B g n c bs ((P ++ C1) ++ (C ++ S)) wr) := Lib.hid ⟨A2 ++ E2, srt_refl (by rw [hnil]; simp; exact HZ.out.s2), by rw [List.append_assoc A2]; exact HS3.out⟩
         clear hnil
         have HEE : Hid (∃ C, Srt (A ++ E) C ∧ SW w0 B g n c bs (P ++ (C ++ S)) wr) := Lib.hid (by
          obtain ⟨C2, hC2, hS4⟩ := HR3.out
          have h5 := srt_app HC1.out hC2 HZ.out.cr
          exact ⟨C1 ++ C2, ⟨h5.1.trans HZ.out.pm, h5.2⟩, HON.out _ _ (by rw [List.append_assoc C1, ← List.append_assoc P]; exact hS4)⟩)
         clear HR3
         go_wp2_with fail
         go_end0
         exact ⟨rfl, HEE.out⟩
        ·skip
         go_upto_region 44 with fail
         refine wl <| gz2 (.int .i64 md) (.int .i64 en) <| gzb (lss_n rfl (md) (en) dF) <| gz5 (.bool false) undef undef undef (.bool false) <| wn ?_
         simp only [pu]
         have hnil : A2 = [] := List.length_eq_zero_iff.1 (by have := HZ.out.l2; have := HZ.out.l4; have := HEN.out; have := HN.out; omega)
         have HR3 : Hid (∃ C, Srt (A2 ++ E2) C ∧ SW W1 B g n c bs ((P ++ C1) ++ (C ++ S)) wr) := Lib.hid ⟨A2 ++ E2, srt_refl (by rw [hnil]; simp; exact HZ.out.s4), by rw [List.append_assoc A2]; exact HS3.out⟩
         clear hnil
         have HEE : Hid (∃ C, Srt (A ++ E) C ∧ SW w0 B g n c bs (P ++ (C ++ S)) wr) := Lib.hid (by
          obtain ⟨C2, hC2, hS4⟩ := HR3.out
          have h5 := srt_app HC1.out hC2 HZ.out.cr
          exact ⟨C1 ++ C2, ⟨h5.1.trans HZ.out.pm, h5.2⟩, HON.out _ _ (by rw [List.append_assoc C1, ← List.append_assoc P]; exact hS4)⟩)
         clear HR3
         go_wp2_with fail
         go_end0
         exact ⟨rfl, HEE.out⟩
      ·skip
       go_upto_region 42 with fail
       refine wl <| gz2 (.int .i64 a) (.int .i64 r) <| gzb (lss_n rfl (a) (r) dF) <| gz5 (.bool false) undef undef undef (.bool false) <| wn ?_
       simp only [pu]
       have hnil : A1 = [] := List.length_eq_zero_iff.1 (by have := HZ.out.l1; have := HZ.out.l3; have := HEN.out; have := HN.out; omega)
       have HR2 : Hid (∃ C, Srt (A1 ++ E1) C ∧ SW W1 B g n c bs (P ++ (C ++ (A2 ++ (E2 ++ S)))) wr) := Lib.hid ⟨A1 ++ E1, srt_refl (by rw [hnil]; simp; exact HZ.out.s3), by rw [List.append_assoc A1]; exact HR1.out⟩
       clear hnil HR1
       obtain ⟨C1, hC1, hS3⟩ := HR2.out
       have hlc := hC1.len
       rw [List.length_append, HZ.out.l1, HZ.out.l3] at hlc
       have HC1 := Lib.hid hC1
       have HLC : Hid (C1.length = r - a + (en - m)) := Lib.hid hlc
       have HS3 : Hid (SW W1 B g n c bs ((P ++ C1) ++ (A2 ++ (E2 ++ S))) wr) := Lib.hid (by rw [List.append_assoc]; exact hS3)
       clear HR2 hC1 hS3 hlc
       by_cases k3 : md < en ∧ en < b
       ·skip
        go_upto_region 44 with fail
        refine wl <| gz2 (.int .i64 md) (.int .i64 en) <| gzb (lss_n rfl (md) (en) dT) <| gz3 (.bool true) (.int .i64 en) (.int .i64 b) <|
         gzb (lss_n rfl (en) (b) dT) <| gz1 (.bool true) <| wn ?_
        simp only [pu]
        go_upto_region 45 with fail
        refine wl <| gzl rfl ⟨g4, 0, none⟩ (.agg (lsA bs g n c)) (load_ls (HLS.out _ _ HS3.out)) <| gz3 (.int .i64 md) (.int .i64 en) (.int .i64 b) <|
         gzc (.tuple #[]) (fun w' => ∃ C, Srt (A2 ++ E2) C ∧ SW W1 B g n c bs ((P ++ C1) ++ (C ++ S)) w') (HIH.out _ _ _ _ _ _ (by have := HZ.out.l2; have := HZ.out.l4; have := H1.out; have := HEN.out; have := HN.out; have := HM2.out; omega) HS3.out HZ.out.s2 HZ.out.s4 HZ.out.t2 (by have := HZ.out.l2; have := HEN.out; omega) (by have := HZ.out.l4; omega) md en b (by have := HLC.out; have := HEN.out; have := HN.out; rw [List.length_append]; omega) (by have := HZ.out.l2; have := HEN.out; omega) (by have := HZ.out.l4; have := HEN.out; omega)) (fun V7 hV7 => ?_)
        simp only [pu]
        apply wpList_nil
        have HR3 := Lib.hid hV7
        clear hV7
        have HEE : Hid (∃ C, Srt (A ++ E) C ∧ SW w0 B g n c bs (P ++ (C ++ S)) V7) := Lib.hid (by
         obtain ⟨C2, hC2, hS4⟩ := HR3.out
         have h5 := srt_app HC1.out hC2 HZ.out.cr
         exact ⟨C1 ++ C2, ⟨h5.1.trans HZ.out.pm, h5.2⟩, HON.out _ _ (by rw [List.append_assoc C1, ← List.append_assoc P]; exact hS4)⟩)
        clear HR3
        go_wp2_with fail
        go_end0
        exact ⟨rfl, HEE.out⟩
       ·skip
        by_cases k4 : md < en
        ·skip
         go_upto_region 44 with fail
         refine wl <| gz2 (.int .i64 md) (.int .i64 en) <| gzb (lss_n rfl (md) (en) dT) <| gz3 (.bool true) (.int .i64 en) (.int .i64 b) <|
          gzb (lss_n rfl (en) (b) dF) <| gz1 (.bool false) <| wn ?_
         simp only [pu]
         have hnil : E2 = [] := List.length_eq_zero_iff.1 (by have := HZ.out.l2; have := HZ.out.l4; have := HEN.out; have := HN.out; omega)
         have HR3 : Hid (∃ C, Srt (A2 ++ E2) C ∧ SW W1 B g n c bs ((P ++ C1) ++ (C ++ S)) wr) := Lib.hid ⟨A2 ++ E2, srt_refl (by rw [hnil]; simp; exact HZ.out.s2), by rw [List.append_assoc A2]; exact HS3.out⟩
         clear hnil
         have HEE : Hid (∃ C, Srt (A ++ E) C ∧ SW w0 B g n c bs (P ++ (C ++ S)) wr) := Lib.hid (by
          obtain ⟨C2, hC2, hS4⟩ := HR3.out
          have h5 := srt_app HC1.out hC2 HZ.out.cr
          exact ⟨C1 ++ C2, ⟨h5.1.trans HZ.out.pm, h5.2⟩, HON.out _ _ (by rw [List.append_assoc C1, ← List.append_assoc P]; exact hS4)⟩)
         clear HR3
         go_wp2_with fail
         go_end0
         exact ⟨rfl, HEE.out⟩
        ·skip
         go_upto_region 44 with fail
         refine wl <| gz2 (.int .i64 md) (.int .i64 en) <| gzb (lss_n rfl (md) (en) dF) <| gz5 (.bool false) undef undef undef (.bool false) <| wn ?_
         simp only [pu]
         have hnil : A2 = [] := List.length_eq_zero_iff.1 (by have := HZ.out.l2; have := HZ.out.l4; have := HEN.out; have := HN.out; omega)
         have HR3 : Hid (∃ C, Srt (A2 ++ E2) C ∧ SW W1 B g n c bs ((P ++ C1) ++ (C ++ S)) wr) := Lib.hid ⟨A2 ++ E2, srt_refl (by rw [hnil]; simp; exact HZ.out.s4), by rw [List.append_assoc A2]; exact HS3.out⟩
         clear hnil
         have HEE : Hid (∃ C, Srt (A ++ E) C ∧ SW w0 B g n c bs (P ++ (C ++ S)) wr) := Lib.hid (by
          obtain ⟨C2, hC2, hS4⟩ := HR3.out
          have h5 := srt_app HC1.out hC2 HZ.out.cr
          exact ⟨C1 ++ C2, ⟨h5.1.trans HZ.out.pm, h5.2⟩, HON.out _ _ (by rw [List.append_assoc C1, ← List.append_assoc P]; exact hS4)⟩)
         clear HR3
         go_wp2_with fail
         go_end0
         exact ⟨rfl, HEE.out⟩
    ·skip
     go_upto_region 40 with fail
     refine wl <| gz2 (.int .i64 r) (.int .i64 m) <| gzb (lss_n rfl (r) (m) dF) <| gz5 (.bool false) undef undef undef (.bool false) <| wn ?_
     simp only [pu]
     have hnil : A2 = [] := List.length_eq_zero_iff.1 (by have := HZ.out.l2; have := HZ.out.l3; have := HEN.out; have := HN.out; omega)
     have HR1 : Hid (SW W1 B g n c bs (P ++ (A1 ++ (E1 ++ (A2 ++ (E2 ++ S))))) wr) := Lib.hid (by have := HS1.out; rw [hnil, List.append_assoc] at this; rw [hnil]; exact this)
     clear hnil HS1
     by_cases k2 : a < r ∧ r < md
     ·skip
      go_upto_region 42 with fail
      refine wl <| gz2 (.int .i64 a) (.int .i64 r) <| gzb (lss_n rfl (a) (r) dT) <| gz3 (.bool true) (.int .i64 r) (.int .i64 md) <|
       gzb (lss_n rfl (r) (md) dT) <| gz1 (.bool true) <| wn ?_
      simp only [pu]
      go_upto_region 43 with fail
      refine wl <| gzl rfl ⟨g4, 0, none⟩ (.agg (lsA bs g n c)) (load_ls (HLS.out _ _ HR1.out)) <| gz3 (.int .i64 a) (.int .i64 r) (.int .i64 md) <|
       gzc (.tuple #[]) (fun w' => ∃ C, Srt (A1 ++ E1) C ∧ SW W1 B g n c bs (P ++ (C ++ (A2 ++ (E2 ++ S)))) w') (HIH.out _ _ _ _ _ _ (by have := HZ.out.l1; have := HZ.out.l3; have := H1.out; have := HEN.out; have := HN.out; have := HM2.out; omega) HR1.out HZ.out.s1 HZ.out.s3 HZ.out.t1 (by have := HZ.out.l1; omega) (by have := HZ.out.l3; have := HEN.out; omega) a r md (by have := HN.out; omega) (by have := HZ.out.l1; have := HEN.out; omega) (by have := HZ.out.l3; have := HEN.out; omega)) (fun V5 hV5 => ?_)
      simp only [pu]
      apply wpList_nil
      have HR2 := Lib.hid hV5
      clear hV5 HR1
      obtain ⟨C1, hC1, hS3⟩ := HR2.out
      have hlc := hC1.len
      rw [List.length_append, HZ.out.l1, HZ.out.l3] at hlc
      have HC1 := Lib.hid hC1
      have HLC : Hid (C1.length = r - a + (en - m)) := Lib.hid hlc
      have HS3 : Hid (SW W1 B g n c bs ((P ++ C1) ++ (A2 ++ (E2 ++ S))) V5) := Lib.hid (by rw [List.append_assoc]; exact hS3)
      clear HR2 hC1 hS3 hlc
      by_cases k3 : md < en ∧ en < b
      ·skip
       go_upto_region 44 with fail
       refine wl <| gz2 (.int .i64 md) (.int .i64 en) <| gzb (lss_n rfl (md) (en) dT) <| gz3 (.bool true) (.int .i64 en) (.int .i64 b) <|
        gzb (lss_n rfl (en) (b) dT) <| gz1 (.bool true) <| wn ?_
       simp only [pu]
       go_upto_region 45 with fail
       refine wl <| gzl rfl ⟨g4, 0, none⟩ (.agg (lsA bs g n c)) (load_ls (HLS.out _ _ HS3.out)) <| gz3 (.int .i64 md) (.int .i64 en) (.int .i64 b) <|
        gzc (.tuple #[]) (fun w' => ∃ C, Srt (A2 ++ E2) C ∧ SW W1 B g n c bs ((P ++ C1) ++ (C ++ S)) w') (HIH.out _ _ _ _ _ _ (by have := HZ.out.l2; have := HZ.out.l4; have := H1.out; have := HEN.out; have := HN.out; have := HM2.out; omega) HS3.out HZ.out.s2 HZ.out.s4 HZ.out.t2 (by have := HZ.out.l2; have := HEN.out; omega) (by have := HZ.out.l4; omega) md en b (by have := HLC.out; have := HEN.out; have := HN.out; rw [List.length_append]; omega) (by have := HZ.out.l2; have := HEN.out; omega) (by have := HZ.out.l4; have := HEN.out; omega)) (fun V7 hV7 => ?_)
       simp only [pu]
       apply wpList_nil
       have HR3 := Lib.hid hV7
       clear hV7
       have HEE : Hid (∃ C, Srt (A ++ E) C ∧ SW w0 B g n c bs (P ++ (C ++ S)) V7) := Lib.hid (by
        obtain ⟨C2, hC2, hS4⟩ := HR3.out
        have h5 := srt_app HC1.out hC2 HZ.out.cr
        exact ⟨C1 ++ C2, ⟨h5.1.trans HZ.out.pm, h5.2⟩, HON.out _ _ (by rw [List.append_assoc C1, ← List.append_assoc P]; exact hS4)⟩)
       clear HR3
       go_wp2_with fail
       go_end0
       exact ⟨rfl, HEE.out⟩
      ·skip
       by_cases k4 : md < en
       ·skip
        go_upto_region 44 with fail
        refine wl <| gz2 (.int .i64 md) (.int .i64 en) <| gzb (lss_n rfl (md) (en) dT) <| gz3 (.bool true) (.int .i64 en) (.int .i64 b) <|
         gzb (lss_n rfl (en) (b) dF) <| gz1 (.bool false) <| wn ?_
        simp only [pu]
        have hnil : E2 = [] := List.length_eq_zero_iff.1 (by have := HZ.out.l2; have := HZ.out.l4; have := HEN.out; have := HN.out; omega)
        have HR3 : Hid (∃ C, Srt (A2 ++ E2) C ∧ SW W1 B g n c bs ((P ++ C1) ++ (C ++ S)) V5) := Lib.hid ⟨A2 ++ E2, srt_refl (by rw [hnil]; simp; exact HZ.out.s2), by rw [List.append_assoc A2]; exact HS3.out⟩
        clear hnil
        have HEE : Hid (∃ C, Srt (A ++ E) C ∧ SW w0 B g n c bs (P ++ (C ++ S)) V5) := Lib.hid (by
         obtain ⟨C2, hC2, hS4⟩ := HR3.out
         have h5 := srt_app HC1.out hC2 HZ.out.cr
         exact ⟨C1 ++ C2, ⟨h5.1.trans HZ.out.pm, h5.2⟩, HON.out _ _ (by rw [List.append_assoc C1, ← List.append_assoc P]; exact hS4)⟩)
        clear HR3
        go_wp2_with fail
        go_end0
        exact ⟨rfl, HEE.out⟩
       ·skip
        go_upto_region 44 with fail
        refine wl <| gz2 (.int .i64 md) (.int .i64 en) <| gzb (lss_n rfl (md) (en) dF) <| gz5 (.bool false) undef undef undef (.bool false) <| wn ?_
        simp only [pu]
        have hnil : A2 = [] := List.length_eq_zero_iff.1 (by have := HZ.out.l2; have := HZ.out.l4; have := HEN.out; have := HN.out; omega)
        have HR3 : Hid (∃ C, Srt (A2 ++ E2) C ∧ SW W1 B g n c bs ((P ++ C1) ++ (C ++ S)) V5) := Lib.hid ⟨A2 ++ E2, srt_refl (by rw [hnil]; simp; exact HZ.out.s4), by rw [List.append_assoc A2]; exact HS3.out⟩
        clear hnil
        have HEE : Hid (∃ C, Srt (A ++ E) C ∧ SW w0 B g n c bs (P ++ (C ++ S)) V5) := Lib.hid (by
         obtain ⟨C2, hC2, hS4⟩ := HR3.out
         have h5 := srt_app HC1.out hC2 HZ.out.cr
         exact ⟨C1 ++ C2, ⟨h5.1.trans HZ.out.pm, h5.2⟩, HON.out _ _ (by rw [List.append_assoc C1, ← List.append_assoc P]; exact hS4)⟩)
        clear HR3
        go_wp2_with fail
        go_end0
        exact ⟨rfl, HEE.out⟩
     ·skip
      by_cases k4 : a < r
      ·skip
       go_upto_region 42 with fail
       refine wl <| gz2 (.int .i64 a) (.int .i64 r) <| gzb (lss_n rfl (a) (r) dT) <| gz3 (.bool true) (.int .i64 r) (.int .i64 md) <|
        gzb (lss_n rfl (r) (md) dF) <| gz1 (.bool false) <| wn ?_
       simp only [pu]
       have hnil : E1 = [] := List.length_eq_zero_iff.1 (by have := HZ.out.l1; have := HZ.out.l3; have := HEN.out; have := HN.out; omega)
       have HR2 : Hid (∃ C, Srt (A1 ++ E1) C ∧ SW W1 B g n c bs (P ++ (C ++ (A2 ++ (E2 ++ S)))) wr) := Lib.hid ⟨A1 ++ E1, srt_refl (by rw [hnil]; simp; exact HZ.out.s1), by rw [List.append_assoc A1]; exact HR1.out⟩
       clear hnil HR1
       obtain ⟨C1, hC1, hS3⟩ := HR2.out
       have hlc := hC1.len
       rw [List.length_append, HZ.out.l1, HZ.out.l3] at hlc
       have HC1 := Lib.hid hC1
       have HLC : Hid (C1.length = r - a + (en - m)) := Lib.hid hlc
       have HS3 : Hid (SW W1 B g n c bs ((P ++ C1) ++ (A2 ++ (E2 ++ S))) wr) := Lib.hid (by rw [List.append_assoc]; exact hS3)
       clear HR2 hC1 hS3 hlc
       by_cases k3 : md < en ∧ en < b
       ·skip
        go_upto_region 44 with fail
        refine wl <| gz2 (.int .i64 md) (.int .i64 en) <| gzb (lss_n rfl (md) (en) dT) <| gz3 (.bool true) (.int .i64 en) (.int .i64 b) <|
         gzb (lss_n rfl (en) (b) dT) <| gz1 (.bool true) <| wn ?_
        simp only [pu]
        go_upto_region 45 with fail
        refine wl <| gzl rfl ⟨g4, 0, none⟩ (.agg (lsA bs g n c)) (load_ls (HLS.out _ _ HS3.out)) <| gz3 (.int .i64 md) (.int .i64 en) (.int .i64 b) <|
         gzc (.tuple #[]) (fun w' => ∃ C, Srt (A2 ++ E2) C ∧ SW W1 B g n c bs ((P ++ C1) ++ (C ++ S)) w') (HIH.out _ _ _ _ _ _ (by have := HZ.out.l2; have := HZ.out.l4; have := H1.out; have := HEN.out; have := HN.out; have := HM2.out; omega) HS3.out HZ.out.s2 HZ.out.s4 HZ.out.t2 (by have := HZ.out.l2; have := HEN.out; omega) (by have := HZ.out.l4; omega) md en b (by have := HLC.out; have := HEN.out; have := HN.out; rw [List.length_append]; omega) (by have := HZ.out.l2; have := HEN.out; omega) (by have := HZ.out.l4; have := HEN.out; omega)) (fun V7 hV7 => ?_)
        simp only [pu]
        apply wpList_nil
        have HR3 := Lib.hid hV7
        clear hV7
        have HEE : Hid (∃ C, Srt (A ++ E) C ∧ SW w0 B g n c bs (P ++ (C ++ S)) V7) := Lib.hid (by
         obtain ⟨C2, hC2, hS4⟩ := HR3.out
         have h5 := srt_app HC1.out hC2 HZ.out.cr
         exact ⟨C1 ++ C2, ⟨h5.1.trans HZ.out.pm, h5.2⟩, HON.out _ _ (by rw [List.append_assoc C1, ← List.append_assoc P]; exact hS4)⟩)
        clear HR3
        go_wp2_with fail
        go_end0
        exact ⟨rfl, HEE.out⟩
       ·skip
        by_cases k4 : md < en
        ·skip
         go_upto_region 44 with fail
         refine wl <| gz2 (.int .i64 md) (.int .i64 en) <| gzb (lss_n rfl (md) (en) dT) <| gz3 (.bool true) (.int .i64 en) (.int .i64 b) <|
          gzb (lss_n rfl (en) (b) dF) <| gz1 (.bool false) <| wn ?_
         simp only [pu]
         have hnil : E2 = [] := List.length_eq_zero_iff.1 (by have := HZ.out.l2; have := HZ.out.l4; have := HEN.out; have := HN.out; omega)
         have HR3 : Hid (∃ C, Srt (A2 ++ E2) C ∧ SW W1 B g n c bs ((P ++ C1) ++ (C ++ S)) wr) := Lib.hid ⟨A2 ++ E2, srt_refl (by rw [hnil]; simp; exact HZ.out.s2), by rw [List.append_assoc A2]; exact HS3.out⟩
         clear hnil
         have HEE : Hid (∃ C, Srt (A ++ E) C ∧ SW w0 B g n c bs (P ++ (C ++ S)) wr) := Lib.hid (by
          obtain ⟨C2, hC2, hS4⟩ := HR3.out
          have h5 := srt_app HC1.out hC2 HZ.out.cr
          exact ⟨C1 ++ C2, ⟨h5.1.trans HZ.out.pm, h5.2⟩, HON.out _ _ (by rw [List.append_assoc C1, ← List.append_assoc P]; exact hS4)⟩)
         clear HR3
         go_wp2_with fail
         go_end0
         exact ⟨rfl, HEE.out⟩
        ·skip
         go_upto_region 44 with fail
         refine wl <| gz2 (.int .i64 md) (.int .i64 en) <| gzb (lss_n rfl (md) (en) dF) <| gz5 (.bool false) undef undef undef (.bool false) <| wn ?_
         simp only [pu]
         have hnil : A2 = [] := List.length_eq_zero_iff.1 (by have := HZ.out.l2; have := HZ.out.l4; have := HEN.out; have := HN.out; omega)
         have HR3 : Hid (∃ C, Srt (A2 ++ E2) C ∧ SW W1 B g n c bs ((P ++ C1) ++ (C ++ S)) wr) := Lib.hid ⟨A2 ++ E2, srt_refl (by rw [hnil]; simp; exact HZ.out.s4), by rw [List.append_assoc A2]; exact HS3.out⟩
         clear hnil
         have HEE : Hid (∃ C, Srt (A ++ E) C ∧ SW w0 B g n c bs (P ++ (C ++ S)) wr) := Lib.hid (by
          obtain ⟨C2, hC2, hS4⟩ := HR3.out
          have h5 := srt_app HC1.out hC2 HZ.out.cr
          exact ⟨C1 ++ C2, ⟨h5.1.trans HZ.out.pm, h5.2⟩, HON.out _ _ (by rw [List.append_assoc C1, ← List.append_assoc P]; exact hS4)⟩)
         clear HR3
         go_wp2_with fail
         go_end0
         exact ⟨rfl, HEE.out⟩
      ·skip
       go_upto_region 42 with fail
       refine wl <| gz2 (.int .i64 a) (.int .i64 r) <| gzb (lss_n rfl (a) (r) dF) <| gz5 (.bool false) undef undef undef (.bool false) <| wn ?_
       simp only [pu]
       have hnil : A1 = [] := List.length_eq_zero_iff.1 (by have := HZ.out.l1; have := HZ.out.l3; have := HEN.out; have := HN.out; omega)
       have HR2 : Hid (∃ C, Srt (A1 ++ E1) C ∧ SW W1 B g n c bs (P ++ (C ++ (A2 ++ (E2 ++ S)))) wr) := Lib.hid ⟨A1 ++ E1, srt_refl (by rw [hnil]; simp; exact HZ.out.s3), by rw [List.append_assoc A1]; exact HR1.out⟩
       clear hnil HR1
       obtain ⟨C1, hC1, hS3⟩ := HR2.out
       have hlc := hC1.len
       rw [List.length_append, HZ.out.l1, HZ.out.l3] at hlc
       have HC1 := Lib.hid hC1
       have HLC : Hid (C1.length = r - a + (en - m)) := Lib.hid hlc
       have HS3 : Hid (SW W1 B g n c bs ((P ++ C1) ++ (A2 ++ (E2 ++ S))) wr) := Lib.hid (by rw [List.append_assoc]; exact hS3)
       clear HR2 hC1 hS3 hlc
       by_cases k3 : md < en ∧ en < b
       ·skip
        go_upto_region 44 with fail
        refine wl <| gz2 (.int .i64 md) (.int .i64 en) <| gzb (lss_n rfl (md) (en) dT) <| gz3 (.bool true) (.int .i64 en) (.int .i64 b) <|
         gzb (lss_n rfl (en) (b) dT) <| gz1 (.bool true) <| wn ?_
        simp only [pu]
        go_upto_region 45 with fail
        refine wl <| gzl rfl ⟨g4, 0, none⟩ (.agg (lsA bs g n c)) (load_ls (HLS.out _ _ HS3.out)) <| gz3 (.int .i64 md) (.int .i64 en) (.int .i64 b) <|
         gzc (.tuple #[]) (fun w' => ∃ C, Srt (A2 ++ E2) C ∧ SW W1 B g n c bs ((P ++ C1) ++ (C ++ S)) w') (HIH.out _ _ _ _ _ _ (by have := HZ.out.l2; have := HZ.out.l4; have := H1.out; have := HEN.out; have := HN.out; have := HM2.out; omega) HS3.out HZ.out.s2 HZ.out.s4 HZ.out.t2 (by have := HZ.out.l2; have := HEN.out; omega) (by have := HZ.out.l4; omega) md en b (by have := HLC.out; have := HEN.out; have := HN.out; rw [List.length_append]; omega) (by have := HZ.out.l2; have := HEN.out; omega) (by have := HZ.out.l4; have := HEN.out; omega)) (fun V7 hV7 => ?_)
        simp only [pu]
        apply wpList_nil
        have HR3 := Lib.hid hV7
        clear hV7
        have HEE : Hid (∃ C, Srt (A ++ E) C ∧ SW w0 B g n c bs (P ++ (C ++ S)) V7) := Lib.hid (by
         obtain ⟨C2, hC2, hS4⟩ := HR3.out
         have h5 := srt_app HC1.out hC2 HZ.out.cr
         exact ⟨C1 ++ C2, ⟨h5.1.trans HZ.out.pm, h5.2⟩, HON.out _ _ (by rw [List.append_assoc C1, ← List.append_assoc P]; exact hS4)⟩)
        clear HR3
        go_wp2_with fail
        go_end0
        exact ⟨rfl, HEE.out⟩
       ·skip
        by_cases k4 : md < en
        ·skip
         go_upto_region 44 with fail
         refine wl <| gz2 (.int .i64 md) (.int .i64 en) <| gzb (lss_n rfl (md) (en) dT) <| gz3 (.bool true) (.int .i64 en) (.int .i64 b) <|
          gzb (lss_n rfl (en) (b) dF) <| gz1 (.bool false) <| wn ?_
         simp only [pu]
         have hnil : E2 = [] := List.length_eq_zero_iff.1 (by have := HZ.out.l2; have := HZ.out.l4; have := HEN.out; have := HN.out; omega)
         have HR3 : Hid (∃ C, Srt (A2 ++ E2) C ∧ SW W1 B g n c bs ((P ++ C1) ++ (C ++ S)) wr) := Lib.hid ⟨A2 ++ E2, srt_refl (by rw [hnil]; simp; exact HZ.out.s2), by rw [List.append_assoc A2]; exact HS3.out⟩
         clear hnil
         have HEE : Hid (∃ C, Srt (A ++ E) C ∧ SW w0 B g n c bs (P ++ (C ++ S)) wr) := Lib.hid (by
          obtain ⟨C2, hC2, hS4⟩ := HR3.out
          have h5 := srt_app HC1.out hC2 HZ.out.cr
          exact ⟨C1 ++ C2, ⟨h5.1.trans HZ.out.pm, h5.2⟩, HON.out _ _ (by rw [List.append_assoc C1, ← List.append_assoc P]; exact hS4)⟩)
         clear HR3
         go_wp2_with fail
         go_end0
         exact ⟨rfl, HEE.out⟩
        ·skip
         go_upto_region 44 with fail
         refine wl <| gz2 (.int .i64 md) (.int .i64 en) <| gzb (lss_n rfl (md) (en) dF) <| gz5 (.bool false) undef undef undef (.bool false) <| wn ?_
         simp only [pu]
         have hnil : A2 = [] := List.length_eq_zero_iff.1 (by have := HZ.out.l2; have := HZ.out.l4; have := HEN.out; have := HN.out; omega)
         have HR3 : Hid (∃ C, Srt (A2 ++ E2) C ∧ SW W1 B g n c bs ((P ++ C1) ++ (C ++ S)) wr) := Lib.hid ⟨A2 ++ E2, srt_refl (by rw [hnil]; simp; exact HZ.out.s4), by rw [List.append_assoc A2]; exact HS3.out⟩
         clear hnil
         have HEE : Hid (∃ C, Srt (A ++ E) C ∧ SW w0 B g n c bs (P ++ (C ++ S)) wr) := Lib.hid (by
          obtain ⟨C2, hC2, hS4⟩ := HR3.out
          have h5 := srt_app HC1.out hC2 HZ.out.cr
          exact ⟨C1 ++ C2, ⟨h5.1.trans HZ.out.pm, h5.2⟩, HON.out _ _ (by rw [List.append_assoc C1, ← List.append_assoc P]; exact hS4)⟩)
         clear HR3
         go_wp2_with fail
         go_end0
         exact ⟨rfl, HEE.out⟩
/-- The merging, of whatever length. -/
theorem q_sym {B g n c bs : Nat} (hn : n < 1152921504606846976) : ∀ N, SymQ B g n c bs N
 | 0 => by
  intro h0 h hA hE ht h1 h2 a m b ha hm hb
  rename_i w0 w P A E S
  omega
 | N + 1 => by
  intro h0 h hA hE ht h1 h2 a m b ha hm hb
  rename_i w0 w P A E S
  rcases Nat.lt_or_ge 1 A.length with h3 | h3
  ·rcases Nat.lt_or_ge 1 E.length with h4 | h4
   ·rcases Nat.lt_or_ge ((a + b) / 2) m with h5 | h5
    ·exact q_sym3 h hn hA hE ht a m b ha hm hb (q_sym hn N) h0 h3 h4 _ rfl h5
    ·exact q_sym4 h hn hA hE ht a m b ha hm hb (q_sym hn N) h0 h3 h4 _ rfl h5
   ·exact q_sym2 h hn hA hE ht a m b ha hm hb h3 (by omega)
  ·exact q_sym1 h hn hA hE ht a m b ha hm hb (by omega) h2
end Go.Proofs.Ytgkckblcekbafaa
