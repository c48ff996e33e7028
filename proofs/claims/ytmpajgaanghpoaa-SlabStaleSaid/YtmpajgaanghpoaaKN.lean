/-
 The fixed example; what a walk over a store keeps.
-/
import Derived.Test.YtmpajgaanghpoaaMN
namespace Go.Proofs.Ytmpajgaanghpoaa
attribute [local irreducible] wpList wpQuiet
open Go.RowKit
set_option maxRecDepth 100000
set_option linter.unusedSimpArgs false
set_option linter.unusedVariables false

section
variable {ρ : Operand → Value} {o : Oper} {x y : Operand}
theorem eql_hn (ho : o.op = .binOp .eql 33 x y 33) (q : Int × Int) (hx : ρ x = .agg #[.int .i64 q.1, .int .i64 q.2]) (hy : ρ y = .agg #[.int .i64 q.1, .int .i64 q.2]) (w : World) : (execOp ρ o).run Try.prog w = .ok (.value (.bool true)) w := by
 unfold execOp
 simp only [ho, hx, hy]
 go_simp
theorem neq_hn (ho : o.op = .binOp .neq 33 x y 33) (q : Int × Int) (hx : ρ x = .agg #[.int .i64 q.1, .int .i64 q.2]) (hy : ρ y = .agg #[.int .i64 q.1, .int .i64 q.2]) (w : World) : (execOp ρ o).run Try.prog w = .ok (.value (.bool false)) w := by
 unfold execOp
 simp only [ho, hx, hy]
 go_simp
theorem neq_b (ho : o.op = .binOp .neq 4 x y 4) (b : Bool) (hx : ρ x = .bool b) (hy : ρ y = .bool b) (w : World) : (execOp ρ o).run Try.prog w = .ok (.value (.bool false)) w := by
 unfold execOp
 simp only [ho, hx, hy]
 go_simp
end
theorem RepS.inn {w : World} {g : Nat} {S : Nat → Prop} {m : Sm} (h : RepS w g S m) : ∀ k, S k → k < w.heap.size := fun k hk => by
 obtain ⟨a, c, T, fr, hM, -, rfl⟩ := h
 exact hM.inn k hk
theorem RepS.same {w w' : World} {g : Nat} {S : Nat → Prop} {m : Sm} (h : RepS w g S m) (hs : ∀ k, S k → w'.heap[k]? = w.heap[k]?) : RepS w' g S m := by
 obtain ⟨a, c, T, fr, hM, hl, rfl⟩ := h
 exact ⟨a, c, T, fr, hM.same hs, hl, rfl⟩
theorem RepS.below {w w' : World} {g : Nat} {S : Nat → Prop} {m : Sm} (h : RepS w g S m) (hb : Below w.heap.size w w') : RepS w' g S m := h.same fun k hk => hb.block k (h.inn k hk)
theorem r_len {w : World} {g : Nat} {S : Nat → Prop} {m : Sm} (h : RepS w g S m) : Calls Try.prog 11 #[.pointer (some ⟨g, 0, none⟩)] w fun e w' => e = .returned (.int .i64 (cntL m.P)) ∧ w = w' := by
 obtain ⟨a, c, T, fr, hM, hl, rfl⟩ := h
 exact q_len hM.bx
theorem r_byt {w : World} {g : Nat} {S : Nat → Prop} {m : Sm} (h : RepS w g S m) : Calls Try.prog 13 #[.pointer (some ⟨g, 0, none⟩)] w fun e w' => e = .returned (.int .i64 (sizL m.P)) ∧ w = w' := by
 obtain ⟨a, c, T, fr, hM, hl, rfl⟩ := h
 exact q_byt hM.bx
/-- The store of a walk; a box that is none of its blocks. -/
structure Stt (B : Nat) (w : World) (g0 : Nat) (S : Nat → Prop) (m : Sm) (V : World) : Prop where
 rep : RepS V g0 S m
 so : ∀ k, S k → B ≤ k
 bz : B ≤ V.heap.size
 bel : Below w.heap.size w V
 wB : w.heap.size ≤ B
structure BxO (V : World) (S : Nat → Prop) (q : Nat) (cs : Array Value) (t : Nat) : Prop where
 bx : Bx V q cs t
 ns : ¬ S q
section
variable {B : Nat} {w V V2 : World} {g0 q t : Nat} {S S2 : Nat → Prop} {m m2 : Sm} {cs : Array Value}
theorem Stt.below (h : Stt B w g0 S m V) (hb : Below V.heap.size V V2) : Stt B w g0 S m V2 := ⟨h.rep.below hb, h.so, Nat.le_trans h.bz hb.size, h.bel.trans (hb.mono h.bel.size), h.wB⟩
theorem Stt.upd (h : Stt B w g0 S m V) (hu : UpdS g0 B S m2 V V2) : ∃ S2, Stt B w g0 S2 m2 V2 ∧ (∀ k, k < V.heap.size → ¬ S k → ¬ S2 k) ∧ ButS B S V V2 := by
 obtain ⟨S2, h1, h2, h3⟩ := hu
 exact ⟨S2, ⟨h1, fun k hk => (h2 k hk).elim (h.so k) (Nat.le_trans h.bz), Nat.le_trans h.bz h3.1.size, h.bel.trans (h3.1.mono h.wB), h.wB⟩, fun k hk hn h4 => (h2 k h4).elim hn (by omega), h3⟩
theorem BxO.below (h : BxO V S q cs t) (hb : Below V.heap.size V V2) : BxO V2 S q cs t := ⟨h.bx.below h.bx.lt hb, h.ns⟩
theorem BxO.upd (h : BxO V S q cs t) (hk : ∀ k, k < V.heap.size → ¬ S k → ¬ S2 k) (hb : ButS B S V V2) : BxO V2 S2 q cs t := ⟨h.bx.buts hb h.ns, hk q h.bx.lt h.ns⟩
/-- A new box. -/
theorem BxO.new (h : Stt B w g0 S m V) (hX : Bx V2 V.heap.size cs t) : BxO V2 S V.heap.size cs t := ⟨hX, fun hs => Nat.lt_irrefl _ (h.rep.inn _ hs)⟩
end
def kE1 : En := ⟨fun _ => 0, [97, 98], ⟨#[]⟩, 0, 0, 0, 0, 0, 1, []⟩
def kE2 : En := ⟨fun _ => 0, [], ⟨#[]⟩, 0, 0, 0, 0, 0, 2, []⟩
def kM0 : Sm := newS 2
def kM1 : Sm := addS kM0 kE1
def kM2 : Sm := remS kM1 (0, 0)
def kM3 : Sm := addS kM2 kE2
theorem k_1 : addH kM0 = (0, 0) ∧ addO kM0 = true := ⟨by decide, by decide⟩
theorem k_2 : valS kM1 (0, 0) = true := by decide
theorem k_3 : addH kM2 = (0, 1) ∧ addO kM2 = true := ⟨by decide, by decide⟩
theorem k_4 : valS kM3 (0, 0) = false := by decide
theorem k_5 : valS kM3 (0, 1) = true ∧ getS kM3 (0, 1) = kE2 := ⟨by decide, rfl⟩
theorem k_6 : cntL kM3.P = 1 ∧ sizL kM3.P = 0 := ⟨by decide, by decide⟩
theorem k_w0 : Wm kM0 0 := Wm.new 2 0
theorem k_w1 : Wm kM1 1 := k_w0.add ⟨by decide, by decide⟩
theorem k_w2 : Wm kM2 1 := k_w1.rem _
theorem k_w3 : Wm kM3 2 := k_w2.add ⟨by decide, by decide⟩
theorem build_ab (V : World) : ∃ V1 V2, (Instr.buildSlice 41 2 #[(0, .int .u8 97), (1, .int .u8 98)]).run Try.prog V = .ok (.slice (some ⟨V.heap.size, 0, none⟩) 2 2) V1 ∧ (convert 41 41 (.slice (some ⟨V.heap.size, 0, none⟩) 2 2)).run Try.prog V1 = .ok (.slice (some ⟨V.heap.size, 0, none⟩) 2 2) V2 ∧ Below V.heap.size V V2 ∧ EnI V2 kE1 ⟨some ⟨V.heap.size, 0, none⟩, 2, none, 0⟩ := by
 obtain ⟨i0, hi, hz0, hz1, hz2⟩ := info_parts info5
 have h1 := run_buildSlice (P := Try.prog) V 41 5 2 #[(0, .int .u8 97), (1, .int .u8 98)] #[.int .u8 97, .int .u8 98] i0 _ Try.underlying41 hi hz0 (by rw [hz1]; omega) (by rw [hz1]; omega) (by rw [hz1]; kernel_rfl)
 have h2 := Lib.run_convert_bytes_const (P := Try.prog) V 41 5 #[.int .u8 97, .int .u8 98] 2 2 Try.underlying41 Try.underlying5
 refine ⟨_, _, h1, h2, (Below.refl _ V).alloc (Nat.le_refl _) _, ⟨.inr ⟨_, rfl, fun k hk => ⟨V.heap.size, 0, rfl, ?_⟩⟩, Cs.nil _ _, Nat.le_refl 2, Nat.le_refl 0⟩⟩
 have hk2 : k < 2 := hk
 rw [Nat.zero_add, cell_of_row _ V.heap.size k _ 5 _ (heap_alloc_last V _)]
 rcases (show k = 0 ∨ k = 1 by omega) with rfl | rfl <;> rfl
theorem conv_ab {ρ : Operand → Value} {o : Oper} {x : Operand} (ho : o.op = .convert 41 41 x) {v u : Value} {w w2 : World} (h : (convert 41 41 v).run Try.prog w = .ok u w2) (hx : ρ x = v) : (execOp ρ o).run Try.prog w = .ok (.value u) w2 := by
 unfold execOp
 simp only [ho, hx, Sem.run_bind, h]
 rfl
set_option maxRecDepth 100000 in
set_option maxHeartbeats 8000000 in
theorem known_true (w : World) : Calls Try.prog 9 #[] w fun e w' => e = .returned (.bool true) ∧ Below w.heap.size w w' := by
 have CN := q_new 2 w
 go_enter Try.func9, Try.ntmps9
 go_upto_region 1 with fail
 refine wl <| gze (fun v w' => ∃ g S, v = .pointer (some ⟨g, 0, none⟩) ∧ RepS w' g S kM0 ∧ (∀ j, S j → w.heap.size ≤ j) ∧ Below w.heap.size w w') (CN.mono fun e w' z => by obtain ⟨g, S, z1, z2⟩ := z; exact ⟨_, z1, g, S, rfl, z2⟩) (fun vv V1 hq => ?_)
 obtain ⟨g0, S0, rfl, hr0, hso, hb0⟩ := hq
 have hs0 : Stt w.heap.size w g0 S0 kM0 V1 := ⟨hr0, hso, hb0.size, hb0, Nat.le_refl _⟩
 simp only [pu]
 refine gz1 (.pointer (some ⟨g0, 0, none⟩)) <| wn ?_
 simp only [pu]
 clear CN hr0 hso hb0
 go_upto_region 2 with fail
 refine wl <| gz2 (.pointer (some ⟨g0, 0, none⟩)) (.bool false) <| wn ?_
 simp only [pu]
 obtain ⟨VA, V2, hbd, hcv, hb2, hI1⟩ := build_ab V1
 have hsA := hs0.below hb2
 obtain ⟨qa, hqa⟩ : ∃ q, V1.heap.size = q := ⟨_, rfl⟩
 rw [hqa] at hbd hI1 hcv
 have hO1 : ∀ k, EB kE1 ⟨some ⟨qa, 0, none⟩, 2, none, 0⟩ k → ¬ S0 k := fun k hk hs => by
  rcases hk with ⟨-, x, hx, rfl⟩ | ⟨hn, -⟩
  ·cases hx
   have h3 : qa < V1.heap.size := hs0.rep.inn _ hs
   omega
  ·exact hn rfl
 go_upto_region 4 with fail
 refine wl <| gz1 (.pointer (some ⟨g0, 0, none⟩)) ?_
 simp only [pu]
 refine gw_build (by kernel_rfl) (some 16) rfl 41 2 #[(0, .const (.int .u8 97)), (1, .const (.int .u8 98))] rfl #[(0, .int .u8 97), (1, .int .u8 98)] (by kernel_rfl) (.slice (some ⟨qa, 0, none⟩) 2 2) VA hbd ?_
 simp only [pu]
 refine run_to rfl (some 17) rfl (.slice (some ⟨qa, 0, none⟩) 2 2) V2 (conv_ab rfl hcv (by kernel_rfl)) ?_
 simp only [pu]
 refine gz1 (.agg (enA kE1 (⟨some ⟨qa, 0, none⟩, 2, none, 0⟩ : Ad))) <|
  gzc (.tuple #[.agg #[.int .i64 0, .int .i64 0], .bool true]) (fun w' => UpdS g0 w.heap.size S0 kM1 V2 w') ((q_add (hsA).rep k_w0 hI1 ⟨by decide, by decide⟩ hO1 (hsA).so (hsA).bz).mono fun r w' z => ⟨by rw [z.1]; simp only [k_1.1, k_1.2], z.2⟩) (fun V3 hu => ?_)
 obtain ⟨S1, hs1, hk1, hbu1⟩ := (hsA).upd hu
 obtain ⟨V4, hst4, hb4, hX4⟩ := new_bx (c := #[.int .i64 0, .int .i64 0]) (c' := #[.int .i64 0, .int .i64 0]) (ty := 33) V3 rfl (by simp [Value.oneCell']) (by kernel_rfl)
 simp only [pu]
 refine gz3 (.tuple #[.agg #[.int .i64 0, .int .i64 0], .bool true]) (.agg #[.int .i64 0, .int .i64 0]) (.bool true) ?_
 simp only [pu]
 refine run_to rfl (some 2) rfl (.pointer (some ⟨V3.heap.size, 0, none⟩)) (V3.alloc (.cells (#[.int .i64 0, .int .i64 0]) 33)) (by kernel_rfl) ?_
 simp only [pu]
 refine gzs rfl (hst4) <| gz1 (.bool true) <| wn ?_
 simp only [pu]
 have hsB := hs1.below hb4
 have hA4 := BxO.new hs1 hX4
 obtain ⟨ga, hga⟩ : ∃ g, V3.heap.size = g := ⟨_, rfl⟩
 rw [hga] at hA4 ⊢
 clear hst4 hb4 hX4 hga hbd hcv hb2 hI1 hO1 hqa hsA hs0 hs1 hk1 hbu1
 have CR := q_rem (0, 0) hsB.rep k_w1 (by decide) hsB.so hsB.bz
 rw [k_2] at CR
 go_upto_region 5 with fail
 refine wl <| gz1 (.pointer (some ⟨g0, 0, none⟩)) <| gzl rfl ⟨ga, 0, none⟩ (.agg #[.int .i64 0, .int .i64 0]) (load_hn (x := (0, 0)) (bx_range (cs := hnl (0, 0)) hA4.bx)) <| gzc (.bool true) (fun w' => UpdS g0 w.heap.size S1 kM2 V4 w') (CR) (fun V5 hu => ?_)
 obtain ⟨S2, hs2, hk2, hbu2⟩ := hsB.upd hu
 have hA5 := hA4.upd hk2 hbu2
 simp only [pu]
 refine gz1 (.bool true) <| wn ?_
 simp only [pu]
 clear CR hsB hA4 hk2 hbu2
 have hI2 : EnI V5 kE2 zAd := ⟨.inl ⟨rfl, rfl, rfl⟩, Cs.nil _ _, Nat.le_refl 0, Nat.le_refl 0⟩
 have hO2 : ∀ k, EB kE2 zAd k → ¬ S2 k := fun k hk => (hk.elim (fun h => h.1 rfl) (fun h => h.1 rfl)).elim
 go_upto_region 6 with fail
 refine wl <| gz2 (.pointer (some ⟨g0, 0, none⟩)) (.agg (enA kE2 zAd)) <|
  gzc (.tuple #[.agg #[.int .i64 0, .int .i64 1], .bool true]) (fun w' => UpdS g0 w.heap.size S2 kM3 V5 w') ((q_add (hs2).rep k_w2 hI2 ⟨by decide, by decide⟩ hO2 (hs2).so (hs2).bz).mono fun r w' z => ⟨by rw [z.1]; simp only [k_3.1, k_3.2], z.2⟩) (fun V6 hu => ?_)
 obtain ⟨S3, hs3, hk3, hbu3⟩ := (hs2).upd hu
 have hA6 := hA5.upd hk3 hbu3
 obtain ⟨V7, hst7, hb7, hX7⟩ := new_bx (c := #[.int .i64 0, .int .i64 0]) (c' := #[.int .i64 0, .int .i64 1]) (ty := 33) V6 rfl (by simp [Value.oneCell']) (by kernel_rfl)
 simp only [pu]
 refine gz3 (.tuple #[.agg #[.int .i64 0, .int .i64 1], .bool true]) (.agg #[.int .i64 0, .int .i64 1]) (.bool true) ?_
 simp only [pu]
 refine run_to rfl (some 5) rfl (.pointer (some ⟨V6.heap.size, 0, none⟩)) (V6.alloc (.cells (#[.int .i64 0, .int .i64 0]) 33)) (by kernel_rfl) ?_
 simp only [pu]
 refine gzs rfl (hst7) <| gz1 (.bool true) <| wn ?_
 simp only [pu]
 have hsC := hs3.below hb7
 have hB7 := BxO.new hs3 hX7
 have hA7 := hA6.below hb7
 obtain ⟨gb, hgb⟩ : ∃ g, V6.heap.size = g := ⟨_, rfl⟩
 rw [hgb] at hB7 ⊢
 clear hst7 hb7 hX7 hgb hI2 hO2 hs2 hs3 hk3 hbu3 hA5 hA6
 have CG := q_get (0, 0) hsC.rep k_w3
 rw [k_4] at CG
 go_upto_region 7 with fail
 refine wl <| gz1 (.pointer (some ⟨g0, 0, none⟩)) <| gzl rfl ⟨ga, 0, none⟩ (.agg #[.int .i64 0, .int .i64 0]) (load_hn (x := (0, 0)) (bx_range (cs := hnl (0, 0)) hA7.bx)) <|
  gze (fun v w' => ∃ d, v = .tuple #[.agg (enA (getS kM3 (0, 0)) d), .bool false] ∧ Below V7.heap.size V7 w') (CG.mono fun r w' z => by obtain ⟨d, z1, z2, z3⟩ := z; exact ⟨_, z1, d, rfl, z3⟩) (fun vv V8 hq => ?_)
 obtain ⟨d8, rfl, hbq⟩ := hq
 obtain ⟨V9, hst9, hb9, hX9⟩ := new_bx (c := enA zEn zAd) (c' := enA (getS kM3 (0, 0)) d8) (ty := 44) V8 rfl (enA_one _ _) (by kernel_rfl)
 simp only [pu]
 refine gz3 (.tuple #[.agg (enA (getS kM3 (0, 0)) d8), .bool false]) (.agg (enA (getS kM3 (0, 0)) d8)) (.bool false) ?_
 simp only [pu]
 refine run_to rfl (some 7) rfl (.pointer (some ⟨V8.heap.size, 0, none⟩)) (V8.alloc (.cells (enA zEn zAd) 44)) (by kernel_rfl) ?_
 simp only [pu]
 refine gzs rfl (hst9) <| gz1 (.bool false) <| wn ?_
 simp only [pu]
 have hb79 := hbq.trans (hb9.mono hbq.size)
 have hsD := hsC.below hb79
 have hA9 := hA7.below hb79
 have hB9 := hB7.below hb79
 obtain ⟨gx, hgx⟩ : ∃ g, V8.heap.size = g := ⟨_, rfl⟩
 rw [hgx]
 clear hst9 hb9 hX9 hgx hbq hb79 hsC hA7 hB7 CG
 have CG := q_get (0, 1) hsD.rep k_w3
 rw [k_5.1, k_5.2] at CG
 go_upto_region 8 with fail
 refine wl <| gz1 (.pointer (some ⟨g0, 0, none⟩)) <| gzl rfl ⟨gb, 0, none⟩ (.agg #[.int .i64 0, .int .i64 1]) (load_hn (x := (0, 1)) (bx_range (cs := hnl (0, 1)) hB9.bx)) <|
  gze (fun v w' => ∃ d, v = .tuple #[.agg (enA kE2 d), .bool true] ∧ Below V9.heap.size V9 w') (CG.mono fun r w' z => by obtain ⟨d, z1, z2, z3⟩ := z; exact ⟨_, z1, d, rfl, z3⟩) (fun vv V10 hq => ?_)
 obtain ⟨d10, rfl, hbq⟩ := hq
 obtain ⟨V11, hst11, hb11, hX11⟩ := new_bx (c := enA zEn zAd) (c' := enA kE2 d10) (ty := 44) V10 rfl (enA_one _ _) (by kernel_rfl)
 simp only [pu]
 refine gz3 (.tuple #[.agg (enA kE2 d10), .bool true]) (.agg (enA kE2 d10)) (.bool true) ?_
 simp only [pu]
 refine run_to rfl (some 9) rfl (.pointer (some ⟨V10.heap.size, 0, none⟩)) (V10.alloc (.cells (enA zEn zAd) 44)) (by kernel_rfl) ?_
 simp only [pu]
 refine gzs rfl (hst11) <| gz1 (.bool true) <| wn ?_
 simp only [pu]
 have hb911 := hbq.trans (hb11.mono hbq.size)
 have hsE := hsD.below hb911
 have hAE := hA9.below hb911
 have hBE := hB9.below hb911
 obtain ⟨gy, hgy⟩ : ∃ g, V10.heap.size = g := ⟨_, rfl⟩
 rw [hgy] at hX11 ⊢
 clear hst11 hb11 hgy hbq hb911 hsD hA9 hB9 CG
 have CL := r_len hsE.rep
 have CB := r_byt hsE.rep
 rw [k_6.1] at CL
 rw [k_6.2] at CB
 go_upto_region 9 with fail
 refine wl <| gz6 (.bool true) (.bool true) (.bool true) (.bool true) (.bool true) (.bool true) <| gz2 (.bool true) (.bool true) <| gzl rfl ⟨ga, 0, none⟩ (.agg #[.int .i64 0, .int .i64 0]) (load_hn (x := (0, 0)) (bx_range (cs := hnl (0, 0)) hAE.bx)) <|
  gz1 (.agg #[.int .i64 0, .int .i64 0]) <| gzw (.bool true) (eql_hn rfl (0, 0)) <| gz2 (.bool true) (.bool true) <| gzl rfl ⟨gb, 0, none⟩ (.agg #[.int .i64 0, .int .i64 1]) (load_hn (x := (0, 1)) (bx_range (cs := hnl (0, 1)) hBE.bx)) <|
  gz1 (.agg #[.int .i64 0, .int .i64 1]) <| gzw (.bool true) (eql_hn rfl (0, 1)) <| gz6 (.bool true) (.bool true) (.bool false) (.bool true) (.bool true) (.bool true) <| gz4 (.bool true) (.bool true) (.bool true) (.pointer (some ⟨gy, 39, none⟩)) <|
  gzl rfl ⟨gy, 39, none⟩ (.int .i64 2) (rg_cell (bx_range hX11) (j := 39) rfl (by kernel_rfl)) <| gzb (eql_n rfl (2) (2) (decide_eq_true (rfl))) <| gz3 (.bool true) (.bool true) (.pointer (some ⟨g0, 0, none⟩)) <|
  gzc (.int .i64 (1 : Nat)) (fun w' => V11 = w') (CL) (fun V9 hV9 => ?_)
 subst hV9
 simp only [pu]
 refine gzb (eql_n rfl ((1 : Nat)) (1) (decide_eq_true (rfl))) <| gz3 (.bool true) (.bool true) (.pointer (some ⟨g0, 0, none⟩)) <| gzc (.int .i64 (0 : Nat)) (fun w' => V11 = w') (CB) (fun V9 hV9 => ?_)
 subst hV9
 simp only [pu]
 refine gzb (eql_n rfl ((0 : Nat)) (0) (decide_eq_true (rfl))) <| gz2 (.bool true) (.bool true) <| wn ?_
 simp only [pu]
 have HE := hsE.bel
 go_wp2_with fail
 go_ret
 exact ⟨rfl, HE⟩
end Go.Proofs.Ytmpajgaanghpoaa
