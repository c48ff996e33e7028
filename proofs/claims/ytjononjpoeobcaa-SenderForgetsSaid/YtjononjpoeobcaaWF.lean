/-
 The walk of SenderForgets.
-/
import Derived.Test.YtjononjpoeobcaaPL
namespace Go.Proofs.Ytjononjpoeobcaa
attribute [local irreducible] wpList wpQuiet
open Go.RowKit
set_option maxRecDepth 100000
set_option linter.unusedSimpArgs false
set_option linter.unusedVariables false

/-- What the loop keeps that removes all rows. -/
structure FG (w : World) (g0 : Nat) (S : Nat → Prop) (mi m : List Rw) (al : Option Addr) (V : World) : Prop where
 rep : RepI V g0 S mi
 so : ∀ k, S k → w.heap.size ≤ k
 rw : Cs V al (rwcs m)
 ro : ∀ k, rb al (rwcs m) k → ¬ S k
 bel : Below w.heap.size w V
section
variable {w : World} {g0 : Nat} {S : Nat → Prop} {mi m m2 : List Rw} {al : Option Addr} {V V2 : World}
theorem FG.below (h : FG w g0 S mi m al V) (hb : Below V.heap.size V V2) : FG w g0 S mi m al V2 := ⟨h.rep.below hb, h.so, h.rw.below hb, h.ro, h.bel.trans (hb.mono h.bel.size)⟩
theorem FG.upd (h : FG w g0 S mi m al V) (hu : UpdI g0 w.heap.size S m2 V V2) : ∃ S2, FG w g0 S2 m2 m al V2 ∧ (∀ k, k < V.heap.size → ¬ S k → ¬ S2 k) ∧ ButS w.heap.size S V V2 := by
 obtain ⟨S2, q1, q2, q3⟩ := hu
 have key : ∀ k, k < V.heap.size → ¬ S k → ¬ S2 k := fun k hk hn h4 => (q2 k h4).elim hn (by omega)
 exact ⟨S2, ⟨q1, fun k hk => (q2 k hk).elim (h.so k) (Nat.le_trans h.bel.size), cs_same h.rw fun k hk => q3.2 k (cs_rlt h.rw k hk) (h.ro k hk), fun k hk => key k (cs_rlt h.rw k hk) (h.ro k hk), h.bel.trans q3.1⟩, key, q3⟩
theorem srt_drop (h : Srt m) (i : Nat) : Srt (m.drop i) := List.Pairwise.sublist (List.drop_sublist _ _) h
theorem has_drop {i : Nat} (hi : i < m.length) : hasR (m.drop i) (kx (m.getD i zrw)) = true := by
 rw [drop_one hi]
 unfold hasR
 rw [List.any_cons, decide_eq_true rfl]
 rfl
theorem rem_drop {i : Nat} (hi : i < m.length) : remR (kx (m.getD i zrw)) (m.drop i) = m.drop (i + 1) := by
 rw [drop_one hi, remR, if_pos rfl]
theorem has_gone (h : Srt m) {i : Nat} (hi : i < m.length) : hasR (m.drop (i + 1)) (kx (m.getD i zrw)) = false := by
 have h2 := srt_drop h i
 rw [drop_one hi] at h2
 exact has_more (List.pairwise_cons.1 h2).1
end
set_option maxRecDepth 100000 in
set_option maxHeartbeats 8000000 in
theorem forgets_core (a : Option Addr) (c : Nat) (L : List Int) (s1 : ByteArray) (q : Int) (hq : W64 q) (w : World) (hl : L.length ≤ 9223372036854775807) (hr : Cs w a (icells L)) : Calls Try.prog 6 #[.slice a L.length c, .string s1, .int .u64 q] w fun e w' => e = .returned (.bool true) ∧ Below w.heap.size w w' := by
 have HR := Lib.hid hr
 have HQW := Lib.hid hq
 clear hr hq
 go_enter Try.func6, Try.ntmps6
 go_upto_region 1 with fail
 have hbd := one_row a L.length c w
 have hXl : Bx (w.alloc (.cells #[.slice a L.length c] 22)) w.heap.size #[.slice a L.length c] 22 := heap_alloc_last w _
 have hbl : Below w.heap.size w (w.alloc (.cells #[.slice a L.length c] 22)) := (Below.refl _ w).alloc (Nat.le_refl _) _
 have CL := long_one w.heap.size a L.length c _ hXl hl
 generalize w.alloc (.cells #[.slice a L.length c] 22) = W1 at *
 have HB1 := Lib.hid hbl
 clear hXl hbl
 by_cases hlong : 160 < L.length
 ·skip
  rw [decide_eq_true (by omega)] at CL
  refine wl <| gz1 (.slice a L.length c) ?_
  simp only [pu]
  refine gw_build (by kernel_rfl) (some 14) rfl 48 1 #[(0, .tmp 13)] rfl #[(0, .slice a L.length c)] (by kernel_rfl) (.slice (some ⟨w.heap.size, 0, none⟩) 1 1) _ hbd ?_
  simp only [pu]
  refine gzc (.bool true) (fun w' => W1 = w') (CL) (fun V9 hV9 => ?_)
  subst hV9
  simp only [pu]
  refine gz5 (.bool true) undef undef undef (.bool true) <| wn ?_
  simp only [pu]
  clear CL hbd
  have CK := known_true W1
  go_upto_region 2 with fail
  refine wl <| gzc (.bool true) (fun w' => Below W1.heap.size W1 w') (CK) (fun V8 hV8 => ?_)
  simp only [pu]
  refine gz1 (.bool true) <| wn ?_
  simp only [pu]
  have HE := HB1.out.trans (hV8.mono HB1.out.size)
  go_wp2_with fail
  go_ret
  exact ⟨rfl, HE⟩
 ·skip
  rw [decide_eq_false (by omega)] at CL
  have hlong : L.length ≤ 160 := by omega
  by_cases hsz : 60 < s1.size
  ·skip
   refine wl <| gz1 (.slice a L.length c) ?_
   simp only [pu]
   refine gw_build (by kernel_rfl) (some 14) rfl 48 1 #[(0, .tmp 13)] rfl #[(0, .slice a L.length c)] (by kernel_rfl) (.slice (some ⟨w.heap.size, 0, none⟩) 1 1) _ hbd ?_
   simp only [pu]
   refine gzc (.bool false) (fun w' => W1 = w') (CL) (fun V9 hV9 => ?_)
   subst hV9
   simp only [pu]
   refine gz3 (.bool false) (.string s1) (.int .i64 s1.size) <| gzb (gtr_n rfl s1.size 60 dT) <| gz1 (.bool true) <| wn ?_
   simp only [pu]
   clear CL hbd
   have CK := known_true W1
   go_upto_region 2 with fail
   refine wl <| gzc (.bool true) (fun w' => Below W1.heap.size W1 w') (CK) (fun V8 hV8 => ?_)
   simp only [pu]
   refine gz1 (.bool true) <| wn ?_
   simp only [pu]
   have HE := HB1.out.trans (hV8.mono HB1.out.size)
   go_wp2_with fail
   go_ret
   exact ⟨rfl, HE⟩
  ·skip
   refine wl <| gz1 (.slice a L.length c) ?_
   simp only [pu]
   refine gw_build (by kernel_rfl) (some 14) rfl 48 1 #[(0, .tmp 13)] rfl #[(0, .slice a L.length c)] (by kernel_rfl) (.slice (some ⟨w.heap.size, 0, none⟩) 1 1) _ hbd ?_
   simp only [pu]
   refine gzc (.bool false) (fun w' => W1 = w') (CL) (fun V9 hV9 => ?_)
   subst hV9
   simp only [pu]
   refine gz3 (.bool false) (.string s1) (.int .i64 s1.size) <| gzb (gtr_n rfl s1.size 60 dF) <| gz1 (.bool false) <| wn ?_
   simp only [pu]
   clear CL hbd
   have CP := play_ok (c := c) (HR.out.below HB1.out) hlong s1 (by omega)
   go_upto_region 3 with fail
   refine wl <| gz2 (.slice a L.length c) (.string s1) <|
    gze (fun v w' => ∃ (g0 : Nat) (S : Nat → Prop) (m : List Rw) (al : Option Addr) (cm : Nat), v = .tuple #[.pointer (some ⟨g0, 0, none⟩), .slice al m.length cm, .bool true] ∧ RepI w' g0 S m ∧ (∀ k, S k → W1.heap.size ≤ k) ∧ Cs w' al (rwcs m) ∧ m.length ≤ cm ∧ (∀ k, rb al (rwcs m) k → ¬ S k) ∧ PlQ m 200 ∧ Below W1.heap.size W1 w') (CP.mono fun e w' z => by obtain ⟨g0, S, m, al, cm, z1, z2⟩ := z; exact ⟨_, z1, g0, S, m, al, cm, rfl, z2⟩) (fun vv V1 hq => ?_)
   obtain ⟨g0, S, m, al, cm, rfl, hrep, hso, hrw, hrl, hro, hqm, hbp⟩ := hq
   have HREP := Lib.hid hrep
   have HRW := Lib.hid hrw
   have HQM := Lib.hid hqm
   have HRO := Lib.hid hro
   have HRL := Lib.hid hrl
   have HB2 := Lib.hid (HB1.out.trans (hbp.mono HB1.out.size))
   have HSO : Hid (∀ k, S k → w.heap.size ≤ k) := Lib.hid fun k hk => Nat.le_trans HB1.out.size (hso k hk)
   have HLM : Hid (m.length ≤ 200) := Lib.hid hqm.ln
   obtain ⟨ml, hml⟩ : ∃ j, m.length = j := ⟨_, rfl⟩
   have HML := Lib.hid hml
   rw [hml]
   clear hrep hso hrw hrl hro hqm hbp CP hml HR HB1
   simp only [pu]
   refine gz6 (.tuple #[.pointer (some ⟨g0, 0, none⟩), .slice al ml cm, .bool true]) (.pointer (some ⟨g0, 0, none⟩)) (.slice al ml cm) (.bool true) (.pointer (some ⟨g0, 0, none⟩)) (.slice al ml cm) <| gz1 (.bool true) <| wn ?_
   simp only [pu]
   go_upto_region 4 with fail
   refine wl <| gz2 (.bool true) (.bool false) <| wn ?_
   simp only [pu]
   go_upto_region 6 with fail
   refine wl <| gz3 (.slice al ml cm) (.int .i64 ml) (.int .i64 0) <| wn ?_
   simp only [pu]
   have HFG0 : Hid (FG w g0 S (m.drop 0) m al V1) := Lib.hid ⟨HREP.out, HSO.out, HRW.out, HRO.out, HB2.out⟩
   clear HREP HSO HRW HRO HB2
   go_wp2_with fail
   go_loopg [33] ml (fun gg s9 wx => ∃ (i : Nat) (S : Nat → Prop), s9 = .int .i64 i ∧ i ≤ ml ∧ gg + i = ml ∧ Hid (FG w g0 S (m.drop i) m al wx))
   case atStart => exact ⟨0, S, rfl, by omega, by omega, HFG0⟩
   case round =>
    obtain ⟨i, S, rfl, hin, hg, HFG⟩ := hrel
    have HGK : Hid (gk + i = ml) := Lib.hid hg
    clear hg HFG0
    by_cases hlt : i < ml
    ·skip
     have hi : i < m.length := by rw [HML.out]; exact hlt
     obtain ⟨b, off, hbb, -, hrg⟩ := rw_rg HFG.out.rw hi
     obtain rfl := hbb
     have hh1 := has_drop (m := m) hi
     have hh2 := rem_drop (m := m) hi
     have hh3 := has_gone HQM.out.srt hi
     obtain ⟨x, hx⟩ : ∃ x, m.getD i zrw = x := ⟨_, rfl⟩
     have HXB : Hid (x.1.size ≤ 1000000) := Lib.hid (HQM.out.nb x (by rw [← hx, getD_lt m i zrw hi]; exact List.getElem_mem hi))
     rw [hx] at hrg hh1 hh2 hh3
     obtain ⟨V2, hst2, hb2, hX2⟩ := new_bx (c := rwA zrw) (c' := rwA x) (ty := 43) wr rfl (rwA_one x) (by kernel_rfl)
     have HNS : Hid (¬ S wr.heap.size) := Lib.hid fun hs => Nat.lt_irrefl _ (HFG.out.rep.inn _ hs)
     have HF2 := HFG.out.below hb2
     have CR1 := q_rem HF2.rep (srt_drop HQM.out.srt i) (by rw [List.length_drop]; have := HLM.out; omega) (kx x) HXB.out HF2.so HF2.bel.size
     rw [hh1, hh2] at CR1
     have HF2 := Lib.hid HF2
     have HH3 := Lib.hid hh3
     clear hi hh1 hh2 hh3 hx HFG
     go_upto_region 7 with fail
     refine wl <| gzb (lss_n rfl (i) (ml) dT) <| wn ?_
     simp only [pu]
     go_upto_region 8 with fail
     refine wl <| gzv (.pointer (some ⟨b, off + i * 3, none⟩)) (idx_rw b off ml cm i hlt _ _ _ rfl (by kernel_rfl) (by kernel_rfl)) <| gzl rfl ⟨b, off + i * 3, none⟩ (.agg (rwA x)) (load_rw hrg) ?_
     simp only [pu]
     refine run_to rfl (some 11) rfl (.pointer (some ⟨wr.heap.size, 0, none⟩)) (wr.alloc (.cells (rwA zrw) 43)) (by kernel_rfl) ?_
     simp only [pu]
     refine gzs rfl (hst2) <| wn ?_
     obtain ⟨g5, hg5⟩ : ∃ g, wr.heap.size = g := ⟨_, rfl⟩
     rw [hg5] at hX2 HNS ⊢
     clear hst2 hb2 hg5 hrg
     go_upto_region 9 with fail
     refine wl <| gz2 (.pointer (some ⟨g0, 0, none⟩)) (.pointer (some ⟨g5, 0, none⟩)) <| gzl rfl ⟨g5, 0, none⟩ (.string x.1) (hX2.load (i := 0) rfl (by kernel_rfl)) <| gz1 (.pointer (some ⟨g5, 1, none⟩)) <|
      gzl rfl ⟨g5, 1, none⟩ (.int .u64 x.2.1) (hX2.load (i := 1) rfl (by kernel_rfl)) <| gzc (.bool true) (fun w' => UpdI g0 w.heap.size S (m.drop (i + 1)) V2 w') (CR1) (fun V3 hu => ?_)
     obtain ⟨S3, hf3, hk3, hbu3⟩ := HF2.out.upd hu
     have hX2 := hX2.buts hbu3 HNS.out
     have CR2 := q_rem hf3.rep (srt_drop HQM.out.srt (i + 1)) (by rw [List.length_drop]; have := HLM.out; omega) (kx x) HXB.out hf3.so hf3.bel.size
     rw [HH3.out, rem_no HH3.out] at CR2
     have HF3 := Lib.hid hf3
     clear hu hf3 hk3 hbu3 CR1 HF2
     simp only [pu]
     refine gz4 (.bool false) (.bool false) (.pointer (some ⟨g0, 0, none⟩)) (.pointer (some ⟨g5, 0, none⟩)) <| gzl rfl ⟨g5, 0, none⟩ (.string x.1) (hX2.load (i := 0) rfl (by kernel_rfl)) <| gz1 (.pointer (some ⟨g5, 1, none⟩)) <|
      gzl rfl ⟨g5, 1, none⟩ (.int .u64 x.2.1) (hX2.load (i := 1) rfl (by kernel_rfl)) <| gzc (.bool false) (fun w' => UpdI g0 w.heap.size S3 (m.drop (i + 1)) V3 w') (CR2) (fun V4 hu => ?_)
     obtain ⟨S4, hf4, -, -⟩ := HF3.out.upd hu
     have HF4 := Lib.hid hf4
     clear hu hf4 CR2 HF3 HH3
     simp only [pu]
     refine gz1 (.bool false) <| wn ?_
     simp only [pu]
     clear hX2 HNS HXB
     go_upto_region 11 with fail
     refine wl <| gzv (.int .i64 (i + 1 : Nat)) (add_one rfl i (by have := HLM.out; have := HML.out; omega) (by kernel_rfl) _) <| gz1 (.int .i64 (i + 1 : Nat)) <| wn ?_
     simp only [pu]
     go_wp2_with fail
     go_roundg (ml - (i + 1))
     case measure => have := HGK.out; omega
     case rel => exact ⟨i + 1, S4, rfl, by omega, by omega, HF4⟩
    ·skip
     obtain rfl : i = ml := by omega
     have hdz : m.drop i = [] := List.drop_of_length_le (by rw [HML.out]; exact Nat.le_refl _)
     have hfe := HFG.out
     rw [hdz] at hfe
     have HFE := Lib.hid hfe
     have CN := q_names hfe.rep List.Pairwise.nil (by decide) (fun x hx => by simp at hx)
     clear hdz hfe HFG
     go_upto_region 7 with fail
     refine wl <| gzb (lss_n rfl (i) (i) dF) <| wn ?_
     simp only [pu]
     go_upto_region 12 with fail
     refine wl <| gz1 (.pointer none) <| wn ?_
     simp only [pu]
     go_upto_region 13 with fail
     refine wl <| gz1 (.pointer (some ⟨g0, 0, none⟩)) <| gze (fun v w' => ∃ a c, v = .slice a (List.length (nmsA none [])) c ∧ Cs w' a (strs (nmsA none [])) ∧ List.length (nmsA none []) ≤ c ∧ Below wr.heap.size wr w') (CN.mono fun e w' z => z.cs) (fun vv X1 hq => ?_)
     obtain ⟨a1, c1, rfl, -, -, hbX1⟩ := hq
     have HF1 := HFE.out.below hbX1
     have CLN := q_len HF1.rep
     have HB1 := Lib.hid HF1.bel
     have CA := add_nil s1 q 1 X1
     have CR := rem_nil s1 q X1
     clear hbX1 HF1 HFE CN
     simp only [pu]
     refine gz1 (.int .i64 0) <| gzb (eql_nn rfl 0 0 (decide_eq_true rfl)) <| gz2 (.bool true) (.pointer (some ⟨g0, 0, none⟩)) <| gzc (.int .i64 0) (fun w' => X1 = w') (CLN) (fun V9 hV9 => ?_)
     subst hV9
     simp only [pu]
     refine gzb (eql_nn rfl 0 0 (decide_eq_true rfl)) <| gz5 (.bool true) (.bool true) (.pointer none) (.string s1) (.int .u64 q) <| gzc (.bool false) (fun w' => X1 = w') (CA) (fun V9 hV9 => ?_)
     subst hV9
     simp only [pu]
     refine gz6 (.bool true) (.bool true) (.bool true) (.pointer none) (.string s1) (.int .u64 q) <| gzc (.bool false) (fun w' => Below X1.heap.size X1 w') (CR) (fun X2 hX2 => ?_)
     have HBB2 := Lib.hid (HB1.out.trans (hX2.mono HB1.out.size))
     have CL := q_list0 s1 X2
     clear hX2 HB1 CR CA CLN
     simp only [pu]
     refine gz5 (.bool true) (.bool true) (.bool true) (.pointer none) (.string s1) <| gze (fun v w' => ∃ a c, v = .slice a (List.length ([] : List Int)) c ∧ Cs w' a (icells ([] : List Int)) ∧ List.length ([] : List Int) ≤ c ∧ Below X2.heap.size X2 w') (CL.mono fun e w' z => z.cs) (fun vv X3 hq => ?_)
     obtain ⟨a3, c3, rfl, -, -, hbX3⟩ := hq
     have HBB3 := Lib.hid (HBB2.out.trans (hbX3.mono HBB2.out.size))
     have CN0 := q_names0 X3
     have CRU := q_run0 s1 HQW.out X3
     clear hbX3 HBB2 CL
     simp only [pu]
     refine gz2 (.int .i64 0) (.pointer none) <| gzc (.slice none 0 0) (fun w' => X3 = w') (CN0) (fun V9 hV9 => ?_)
     subst hV9
     simp only [pu]
     refine gz1 (.int .i64 0) <| gzw (.int .i64 (0 + 0 : Nat)) (add_nat rfl 0 0 (by omega)) <| gz3 (.pointer none) (.string s1) (.int .u64 q) <|
      gze (fun v w' => ∃ a c, v = .slice a (List.length ([] : List Int)) c ∧ Cs w' a (icells ([] : List Int)) ∧ List.length ([] : List Int) ≤ c ∧ Below X3.heap.size X3 w') (CRU.mono fun e w' z => z.cs) (fun vv X4 hq => ?_)
     obtain ⟨a4, c4, rfl, -, -, hbX4⟩ := hq
     have HBB4 := Lib.hid (HBB3.out.trans (hbX4.mono HBB3.out.size))
     have CL0 := q_len0 X4
     have CK := known_true X4
     clear hbX4 HBB3 CRU CN0
     simp only [pu]
     refine gz1 (.int .i64 0) <| gzw (.int .i64 (0 + 0 : Nat)) (add_nat rfl 0 0 (by omega)) <| gz1 (.pointer none) <| gzc (.int .i64 0) (fun w' => X4 = w') (CL0) (fun V9 hV9 => ?_)
     subst hV9
     simp only [pu]
     refine gzw (.int .i64 (0 + 0 : Nat)) (add_nat rfl 0 0 (by omega)) <| gzb (eql_nn rfl 0 0 (decide_eq_true rfl)) <| gz2 (.bool true) (.bool true) <| gzc (.bool true) (fun w' => Below X4.heap.size X4 w') (CK) (fun V8 hV8 => ?_)
     simp only [pu]
     refine gz2 (.bool true) (.bool true) <| wn ?_
     simp only [pu]
     have HE := HBB4.out.trans (hV8.mono HBB4.out.size)
     go_wp2_with fail
     go_ret
     exact ⟨rfl, HE⟩
end Go.Proofs.Ytjononjpoeobcaa
