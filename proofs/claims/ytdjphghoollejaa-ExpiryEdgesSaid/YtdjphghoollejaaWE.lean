/-
 The walk of ExpiryEdges.
-/
import Derived.Test.YtdjphghoollejaaKN
namespace Go.Proofs.Ytdjphghoollejaa
attribute [local irreducible] wpList wpQuiet
open Go.RowKit
set_option maxRecDepth 100000
set_option linter.unusedSimpArgs false
set_option linter.unusedVariables false

/-- Two queues apart from each other. -/
structure Two (w : World) (ga gb : Nat) (SA SB : Nat → Prop) (ba sa : Int) (ma : List Wt) (bb sb : Int) (mb : List Wt) (V : World) : Prop where
 a : Stt w.heap.size w ga SA ba sa ma V
 b : Stt w.heap.size w gb SB bb sb mb V
 dis : ∀ k, SA k → SB k → False
section
variable {w : World} {ga gb : Nat} {SA SB : Nat → Prop} {ba sa bb sb : Int} {ma mb m2 : List Wt} {V V2 : World}
theorem Two.below (h : Two w ga gb SA SB ba sa ma bb sb mb V) (hb : Below V.heap.size V V2) : Two w ga gb SA SB ba sa ma bb sb mb V2 := ⟨h.a.below hb, h.b.below hb, h.dis⟩
theorem Two.updA (h : Two w ga gb SA SB ba sa ma bb sb mb V) (hu : UpdQ ga w.heap.size SA ba sa m2 V V2) : ∃ S2, Two w ga gb S2 SB ba sa m2 bb sb mb V2 := by
 obtain ⟨S2, h1, h2, h3⟩ := h.a.upd hu
 exact ⟨S2, ⟨h1, ⟨h.b.rep.same fun k hk => h3.2 k (h.b.rep.inn k hk) fun hA => h.dis k hA hk, h.b.so, h1.bz, h1.bel, h.b.wB⟩, fun k hA hk => h2 k (h.b.rep.inn k hk) (fun hA2 => h.dis k hA2 hk) hA⟩⟩
theorem Two.updB (h : Two w ga gb SA SB ba sa ma bb sb mb V) (hu : UpdQ gb w.heap.size SB bb sb m2 V V2) : ∃ S2, Two w ga gb SA S2 ba sa ma bb sb m2 V2 := by
 obtain ⟨S2, h1, h2, h3⟩ := h.b.upd hu
 exact ⟨S2, ⟨⟨h.a.rep.same fun k hk => h3.2 k (h.a.rep.inn k hk) fun hB => h.dis k hk hB, h.a.so, h1.bz, h1.bel, h.a.wB⟩, h1, fun k hk hB => h2 k (h.a.rep.inn k hk) (fun hB2 => h.dis k hk hB2) hB⟩⟩
end
theorem late_f {n p l : Int} (h : ¬ (0 < l ∧ p < n ∧ l < n - p)) : late n p l = false := decide_eq_false h
theorem late_t {n p l : Int} (h : 0 < l ∧ p < n ∧ l < n - p) : late n p l = true := decide_eq_true h
theorem exp_two (x y : Wt) (bl sp h t : Int) : expW [x, y] bl sp h t = (if expB bl sp h t x then [x.1] else []) ++ (if expB bl sp h t y then [y.1] else []) := by
 unfold expW
 cases hx : expB bl sp h t x <;> cases hy : expB bl sp h t y <;> simp [List.filter, hx, hy]
theorem add_first (z : Wt) : addW [] z = [z] := rfl
theorem add_two (x z : Wt) (h : x.1 < z.1) : addW [x] z = [x, z] := by
 have h1 : hasW [x] z.1 = false := by unfold hasW; simp; omega
 have h2 : posW z.1 [x] 0 0 = 1 := by unfold posW; rw [if_pos h]; rfl
 unfold addW
 rw [h1, if_neg Bool.false_ne_true, h2]
 rfl
/-- What the two queues of the statement answer. -/
structure Ed (at_ lim : Int) : Prop where
 a1 : expW [(1, at_, 0), (2, 9223372036854775807, 0)] lim 0 (at_ + lim) 0 = []
 a2 : expW [(1, at_, 0), (2, 9223372036854775807, 0)] lim 0 (at_ + lim + 1) 0 = [1]
 b1 : expW [(1, 0, at_), (3, 0, -9223372036854775808)] 0 lim 0 (at_ + lim) = [3]
 b2 : expW [(1, 0, at_), (3, 0, -9223372036854775808)] 0 lim 0 (at_ + lim + 1) = [1, 3]
 a3 : expW [(1, at_, 0), (2, 9223372036854775807, 0)] lim 0 9223372036854775807 5 = [1]
 b3 : expW [(1, 0, at_), (3, 0, -9223372036854775808)] 0 lim 9223372036854775807 (-9223372036854775808) = []
theorem ed_ok {at_ lim : Int} (h1 : 1 ≤ lim) (h2 : lim ≤ 1099511627776) (h3 : -576460752303423488 ≤ at_) (h4 : at_ ≤ 576460752303423488) : Ed at_ lim where
 a1 := by
  rw [exp_two, if_neg (by unfold expB; rw [late_f (by simp only; omega), late_f (by simp only; omega)]; decide), if_neg (by unfold expB; rw [late_f (by simp only; omega), late_f (by simp only; omega)]; decide)]; rfl
 a2 := by
  rw [exp_two, if_pos (by unfold expB; rw [late_t (by simp only; omega)]; rfl), if_neg (by unfold expB; rw [late_f (by simp only; omega), late_f (by simp only; omega)]; decide)]; rfl
 b1 := by
  rw [exp_two, if_neg (by unfold expB; rw [late_f (by simp only; omega), late_f (by simp only; omega)]; decide), if_pos (by unfold expB; rw [late_f (by simp only; omega), late_t (by simp only; omega)]; rfl)]; rfl
 b2 := by
  rw [exp_two, if_pos (by unfold expB; rw [late_f (by simp only; omega), late_t (by simp only; omega)]; rfl), if_pos (by unfold expB; rw [late_f (by simp only; omega), late_t (by simp only; omega)]; rfl)]; rfl
 a3 := by
  rw [exp_two, if_pos (by unfold expB; rw [late_t (by simp only; omega)]; rfl), if_neg (by unfold expB; rw [late_f (by simp only; omega), late_f (by simp only; omega)]; decide)]; rfl
 b3 := by
  rw [exp_two, if_neg (by unfold expB; rw [late_f (by simp only; omega), late_f (by simp only; omega)]; decide), if_neg (by unfold expB; rw [late_f (by simp only; omega), late_f (by simp only; omega)]; decide)]; rfl
section
variable {ρ : Operand → Value} {o : Oper} {x y : Operand}
theorem add_I (ho : o.op = .binOp .add 3 x y 3) (a b : Int) (h : I64 (a + b)) (hx : ρ x = .int .i64 a) (hy : ρ y = .int .i64 b) (w : World) : (execOp ρ o).run Try.prog w = .ok (.value (.int .i64 (a + b))) w := by
 have hw : IntKind.i64.wrap (a + b) = a + b := by rw [IntKind.wrap_i64]; obtain ⟨h1, h2⟩ := h; omega
 unfold execOp
 simp only [ho, hx, hy]
 go_simp
theorem sub_I (ho : o.op = .binOp .sub 3 x y 3) (a b : Int) (h : I64 (a - b)) (hx : ρ x = .int .i64 a) (hy : ρ y = .int .i64 b) (w : World) : (execOp ρ o).run Try.prog w = .ok (.value (.int .i64 (a - b))) w := by
 have hw : IntKind.i64.wrap (a - b) = a - b := by rw [IntKind.wrap_i64]; obtain ⟨h1, h2⟩ := h; omega
 unfold execOp
 simp only [ho, hx, hy]
 go_simp
end
set_option maxRecDepth 100000 in
set_option maxHeartbeats 8000000 in
theorem edges_core (x1 x2 : Int) (w : World) : Calls Try.prog 5 #[.int .i64 x1, .int .i64 x2] w fun e w' => e = .returned (.bool true) ∧ Below w.heap.size w w' := by
 have hp1 := pl_range x2 1099511627776 (by decide)
 have hp2 := pl_range x1 1152921504606846976 (by decide)
 have CP1 := mk_placeB x2 1099511627776 w (by decide) (by decide)
 have CP2 := mk_placeB x1 1152921504606846976 w (by decide) (by decide)
 generalize pl x2 1099511627776 = p1 at *
 generalize pl x1 1152921504606846976 = p2 at *
 go_enter Try.func5, Try.ntmps5
 go_upto_region 1 with fail
 refine wl <| gz1 (.int .i64 x2) <| gzc (.int .i64 p1) (fun w' => w = w') (CP1) (fun V9 hV9 => ?_)
 subst hV9
 simp only [pu]
 refine gzw (.int .i64 (1 + p1)) (add_I rfl 1 p1 ⟨by omega, by omega⟩) <| gz1 (.int .i64 (1 + p1)) <| wn ?_
 simp only [pu]
 go_upto_region 2 with fail
 refine wl <| gz1 (.int .i64 x1) <| gzc (.int .i64 p2) (fun w' => w = w') (CP2) (fun V9 hV9 => ?_)
 subst hV9
 simp only [pu]
 refine gzw (.int .i64 (p2 - 576460752303423488)) (sub_I rfl p2 576460752303423488 ⟨by omega, by omega⟩) <| gz1 (.int .i64 (p2 - 576460752303423488)) <| wn ?_
 simp only [pu]
 clear CP1 CP2
 obtain ⟨lim, hlim⟩ : ∃ l : Int, 1 + p1 = l := ⟨_, rfl⟩
 obtain ⟨at9, hat9⟩ : ∃ l : Int, p2 - 576460752303423488 = l := ⟨_, rfl⟩
 have HB : Hid (1 ≤ lim ∧ lim ≤ 1099511627776 ∧ -576460752303423488 ≤ at9 ∧ at9 ≤ 576460752303423488) := Lib.hid ⟨by omega, by omega, by omega, by omega⟩
 rw [hlim, hat9]
 clear hlim hat9 hp1 hp2
 have HED := Lib.hid (ed_ok HB.out.1 HB.out.2.1 HB.out.2.2.1 HB.out.2.2.2)
 have HI : Hid (I64 lim ∧ I64 at9 ∧ I64 (at9 + lim) ∧ I64 (at9 + lim + 1) ∧ I64 0 ∧ I64 5 ∧ I64 9223372036854775807 ∧ I64 (-9223372036854775808)) := Lib.hid (by have := HB.out; exact ⟨⟨by omega, by omega⟩, ⟨by omega, by omega⟩, ⟨by omega, by omega⟩, ⟨by omega, by omega⟩, ⟨by omega, by omega⟩, ⟨by omega, by omega⟩, ⟨by omega, by omega⟩, ⟨by omega, by omega⟩⟩)
 have CN1 := q_new lim 0 w
 go_upto_region 3 with fail
 refine wl <| gz1 (.int .i64 lim) <| gze (fun v w' => ∃ g S, v = .pointer (some ⟨g, 0, none⟩) ∧ RepQ w' g S lim 0 [] ∧ (∀ k, S k → w.heap.size ≤ k) ∧ Below w.heap.size w w') (CN1.mono fun e w' z => by obtain ⟨g, S, z1, z2⟩ := z; exact ⟨_, z1, g, S, rfl, z2⟩) (fun vv V1 hq => ?_)
 obtain ⟨ga, Sa0, rfl, hra, hsoa, hba⟩ := hq
 have CN2 := q_new 0 lim V1
 clear CN1
 simp only [pu]
 refine gz1 (.int .i64 lim) <| gze (fun v w' => ∃ g S, v = .pointer (some ⟨g, 0, none⟩) ∧ RepQ w' g S 0 lim [] ∧ (∀ k, S k → V1.heap.size ≤ k) ∧ Below V1.heap.size V1 w') (CN2.mono fun e w' z => by obtain ⟨g, S, z1, z2⟩ := z; exact ⟨_, z1, g, S, rfl, z2⟩) (fun vv V2 hq => ?_)
 obtain ⟨gb, Sb0, rfl, hrb, hsob, hbb⟩ := hq
 have HT0 : Hid (Two w ga gb Sa0 Sb0 lim 0 [] 0 lim [] V2) := Lib.hid ⟨⟨hra.below hbb, hsoa, by have := hba.size; have := hbb.size; omega, hba.trans (hbb.mono hba.size), Nat.le_refl _⟩, ⟨hrb, fun k hk => Nat.le_trans hba.size (hsob k hk), by have := hba.size; have := hbb.size; omega, hba.trans (hbb.mono hba.size), Nat.le_refl _⟩, fun k h1 h2 => by have := hra.inn k h1; have := hsob k h2; omega⟩
 clear hra hrb hsoa hsob hba hbb CN2
 simp only [pu]
 refine gz2 (.pointer (some ⟨ga, 0, none⟩)) (.pointer (some ⟨gb, 0, none⟩)) <| wn ?_
 simp only [pu]
 go_upto_region 4 with fail
 refine wl <| gz6 (.pointer (some ⟨ga, 0, none⟩)) (.bool false) (.bool false) (.pointer (some ⟨gb, 0, none⟩)) (.bool false) (.bool false) <| wn ?_
 simp only [pu]
 have CA := q_add HT0.out.a.rep (by simp only [List.length_cons, List.length_nil]; omega) 1 at9 0 HI.out.2.1 HI.out.2.2.2.2.1 HT0.out.a.so HT0.out.a.bz
 rw [add_first ((1, at9, 0))] at CA
 change Calls _ _ _ _ (fun e w' => e = .returned (.bool true) ∧ _) at CA
 go_upto_region 6 with fail
 refine wl <| gz2 (.pointer (some ⟨ga, 0, none⟩)) (.int .i64 at9) <| gzc (.bool true) (fun w' => UpdQ ga w.heap.size Sa0 lim 0 [(1, at9, 0)] V2 w') CA (fun V3 hu => ?_)
 obtain ⟨Sa1, ht⟩ := HT0.out.updA hu
 have HT1 := Lib.hid ht
 clear hu ht CA HT0
 have CA := q_add HT1.out.b.rep (by simp only [List.length_cons, List.length_nil]; omega) 1 0 at9 HI.out.2.2.2.2.1 HI.out.2.1 HT1.out.b.so HT1.out.b.bz
 rw [add_first ((1, 0, at9))] at CA
 change Calls _ _ _ _ (fun e w' => e = .returned (.bool true) ∧ _) at CA
 simp only [pu]
 apply wpList_nil
 go_upto_region 7 with fail
 refine wl <| gz2 (.pointer (some ⟨gb, 0, none⟩)) (.int .i64 at9) <| gzc (.bool true) (fun w' => UpdQ gb w.heap.size Sb0 0 lim [(1, 0, at9)] V3 w') CA (fun V4 hu => ?_)
 obtain ⟨Sb1, ht⟩ := HT1.out.updB hu
 have HT2 := Lib.hid ht
 clear hu ht CA HT1
 have CA := q_add HT2.out.a.rep (by simp only [List.length_cons, List.length_nil]; omega) 2 9223372036854775807 0 HI.out.2.2.2.2.2.2.1 HI.out.2.2.2.2.1 HT2.out.a.so HT2.out.a.bz
 rw [add_two _ ((2, 9223372036854775807, 0)) (by simp only; omega)] at CA
 change Calls _ _ _ _ (fun e w' => e = .returned (.bool true) ∧ _) at CA
 simp only [pu]
 apply wpList_nil
 go_upto_region 8 with fail
 refine wl <| gz1 (.pointer (some ⟨ga, 0, none⟩)) <| gzc (.bool true) (fun w' => UpdQ ga w.heap.size Sa1 lim 0 [(1, at9, 0), (2, 9223372036854775807, 0)] V4 w') CA (fun V5 hu => ?_)
 obtain ⟨Sa2, ht⟩ := HT2.out.updA hu
 have HT3 := Lib.hid ht
 clear hu ht CA HT2
 have CA := q_add HT3.out.b.rep (by simp only [List.length_cons, List.length_nil]; omega) 3 0 (-9223372036854775808) HI.out.2.2.2.2.1 HI.out.2.2.2.2.2.2.2 HT3.out.b.so HT3.out.b.bz
 rw [add_two _ ((3, 0, -9223372036854775808)) (by simp only; omega)] at CA
 change Calls _ _ _ _ (fun e w' => e = .returned (.bool true) ∧ _) at CA
 simp only [pu]
 apply wpList_nil
 go_upto_region 9 with fail
 refine wl <| gz1 (.pointer (some ⟨gb, 0, none⟩)) <| gzc (.bool true) (fun w' => UpdQ gb w.heap.size Sb1 0 lim [(1, 0, at9), (3, 0, -9223372036854775808)] V5 w') CA (fun V6 hu => ?_)
 obtain ⟨Sb2, ht⟩ := HT3.out.updB hu
 have HT4 := Lib.hid ht
 clear hu ht CA HT3
 have CE := q_exp HT4.out.a.rep (by simp only [List.length_cons, List.length_nil]; omega) HI.out.1 HI.out.2.2.2.2.1 (h := at9 + lim) (t := 0) HI.out.2.2.1 HI.out.2.2.2.2.1
 rw [HED.out.a1] at CE
 simp only [pu]
 apply wpList_nil
 go_upto_region 10 with fail
 refine wl <| gz1 (.pointer none) <| wn ?_
 simp only [pu]
 go_upto_region 11 with fail
 refine wl <| gz3 (.pointer (some ⟨ga, 0, none⟩)) (.int .i64 at9) (.int .i64 lim) <| gzw (.int .i64 (at9 + lim)) (add_I rfl at9 lim HI.out.2.2.1) <|
  gze (fun v w' => ∃ a c, v = .slice a (List.length ([] : List Int)) c ∧ Cs w' a (icells ([] : List Int)) ∧ List.length ([] : List Int) ≤ c ∧ Below V6.heap.size V6 w') (CE.mono fun e w' z => z.cs) (fun vv X1 hq => ?_)
 obtain ⟨a1, c1, rfl, hc1, hlc1, hbX1⟩ := hq
 have HX1 := Lib.hid (HT4.out.below hbX1)
 clear CE hbX1 hc1 hlc1 HT4
 have CE := q_exp HX1.out.a.rep (by simp only [List.length_cons, List.length_nil]; omega) HI.out.1 HI.out.2.2.2.2.1 (h := at9 + lim + 1) (t := 0) HI.out.2.2.2.1 HI.out.2.2.2.2.1
 rw [HED.out.a2] at CE
 simp only [pu]
 refine gz1 (.int .i64 0) <| gzb (eql_nn rfl 0 0 (decide_eq_true rfl)) <| gz4 (.bool true) (.pointer (some ⟨ga, 0, none⟩)) (.int .i64 at9) (.int .i64 lim) <| gzw (.int .i64 (at9 + lim)) (add_I rfl at9 lim HI.out.2.2.1) <|
  gzw (.int .i64 (at9 + lim + 1)) (add_I rfl (at9 + lim) 1 HI.out.2.2.2.1) <|
  gze (fun v w' => ∃ a c, v = .slice a (List.length ([1] : List Int)) c ∧ Cs w' a (icells ([1] : List Int)) ∧ List.length ([1] : List Int) ≤ c ∧ Below X1.heap.size X1 w') (CE.mono fun e w' z => z.cs) (fun vv X2 hq => ?_)
 obtain ⟨a2, c2, rfl, hc2, hlc2, hbX2⟩ := hq
 have HX2 := Lib.hid (HX1.out.below hbX2)
 clear HX1
 obtain ⟨Y2, hY2⟩ : ∃ W, X2.alloc (.cells (icells [1]).toArray 3) = W := ⟨_, rfl⟩
 have hbY2 : Below X2.heap.size X2 Y2 := by rw [← hY2]; exact (Below.refl _ X2).alloc (Nat.le_refl _) _
 have hcY2 : Cs Y2 (some ⟨X2.heap.size, 0, none⟩) (icells [1]) := Cs.block (by rw [← hY2]; exact heap_alloc_last X2 _)
 have hbd2 := one_ints 1 X2
 rw [hY2] at hbd2
 have CS := same_ints (c := c2) (c2 := 1) (hc2.below hbY2) hcY2 (by decide)
 have HY2 := Lib.hid (HX2.out.below hbY2)
 clear CE hbX2 hc2 hlc2 hbY2 hcY2 HX2
 simp only [pu]
 refine gw_build (by kernel_rfl) (some 48) rfl 22 1 #[(0, .const (.int .i64 1))] rfl #[(0, .int .i64 1)] (by kernel_rfl) (.slice (some ⟨X2.heap.size, 0, none⟩) 1 1) _ hbd2 ?_
 simp only [pu]
 refine gzc (.bool true) (fun w' => Below Y2.heap.size Y2 w') (CS) (fun Z2 hbZ => ?_)
 have HZ2 := Lib.hid (HY2.out.below hbZ)
 clear hbZ CS hbd2 hY2 HY2
 have CE := q_exp HZ2.out.b.rep (by simp only [List.length_cons, List.length_nil]; omega) HI.out.2.2.2.2.1 HI.out.1 (h := 0) (t := at9 + lim) HI.out.2.2.2.2.1 HI.out.2.2.1
 rw [HED.out.b1] at CE
 simp only [pu]
 refine gz5 (.bool true) (.bool true) (.pointer (some ⟨gb, 0, none⟩)) (.int .i64 at9) (.int .i64 lim) <| gzw (.int .i64 (at9 + lim)) (add_I rfl at9 lim HI.out.2.2.1) <|
  gze (fun v w' => ∃ a c, v = .slice a (List.length ([3] : List Int)) c ∧ Cs w' a (icells ([3] : List Int)) ∧ List.length ([3] : List Int) ≤ c ∧ Below Z2.heap.size Z2 w') (CE.mono fun e w' z => z.cs) (fun vv X3 hq => ?_)
 obtain ⟨a3, c3, rfl, hc3, hlc3, hbX3⟩ := hq
 have HX3 := Lib.hid (HZ2.out.below hbX3)
 clear HZ2
 obtain ⟨Y3, hY3⟩ : ∃ W, X3.alloc (.cells (icells [3]).toArray 3) = W := ⟨_, rfl⟩
 have hbY3 : Below X3.heap.size X3 Y3 := by rw [← hY3]; exact (Below.refl _ X3).alloc (Nat.le_refl _) _
 have hcY3 : Cs Y3 (some ⟨X3.heap.size, 0, none⟩) (icells [3]) := Cs.block (by rw [← hY3]; exact heap_alloc_last X3 _)
 have hbd3 := one_ints 3 X3
 rw [hY3] at hbd3
 have CS := same_ints (c := c3) (c2 := 1) (hc3.below hbY3) hcY3 (by decide)
 have HY3 := Lib.hid (HX3.out.below hbY3)
 clear CE hbX3 hc3 hlc3 hbY3 hcY3 HX3
 simp only [pu]
 refine gw_build (by kernel_rfl) (some 57) rfl 22 1 #[(0, .const (.int .i64 3))] rfl #[(0, .int .i64 3)] (by kernel_rfl) (.slice (some ⟨X3.heap.size, 0, none⟩) 1 1) _ hbd3 ?_
 simp only [pu]
 refine gzc (.bool true) (fun w' => Below Y3.heap.size Y3 w') (CS) (fun Z3 hbZ => ?_)
 have HZ3 := Lib.hid (HY3.out.below hbZ)
 clear hbZ CS hbd3 hY3 HY3
 have CE := q_exp HZ3.out.b.rep (by simp only [List.length_cons, List.length_nil]; omega) HI.out.2.2.2.2.1 HI.out.1 (h := 0) (t := at9 + lim + 1) HI.out.2.2.2.2.1 HI.out.2.2.2.1
 rw [HED.out.b2] at CE
 simp only [pu]
 refine gz5 (.bool true) (.bool true) (.pointer (some ⟨gb, 0, none⟩)) (.int .i64 at9) (.int .i64 lim) <| gzw (.int .i64 (at9 + lim)) (add_I rfl at9 lim HI.out.2.2.1) <|
  gzw (.int .i64 (at9 + lim + 1)) (add_I rfl (at9 + lim) 1 HI.out.2.2.2.1) <|
  gze (fun v w' => ∃ a c, v = .slice a (List.length ([1, 3] : List Int)) c ∧ Cs w' a (icells ([1, 3] : List Int)) ∧ List.length ([1, 3] : List Int) ≤ c ∧ Below Z3.heap.size Z3 w') (CE.mono fun e w' z => z.cs) (fun vv X4 hq => ?_)
 obtain ⟨a4, c4, rfl, hc4, hlc4, hbX4⟩ := hq
 have HX4 := Lib.hid (HZ3.out.below hbX4)
 clear HZ3
 obtain ⟨Y4, hY4⟩ : ∃ W, X4.alloc (.cells (icells [1, 3]).toArray 3) = W := ⟨_, rfl⟩
 have hbY4 : Below X4.heap.size X4 Y4 := by rw [← hY4]; exact (Below.refl _ X4).alloc (Nat.le_refl _) _
 have hcY4 : Cs Y4 (some ⟨X4.heap.size, 0, none⟩) (icells [1, 3]) := Cs.block (by rw [← hY4]; exact heap_alloc_last X4 _)
 have hbd4 := two_int 1 3 X4
 rw [hY4] at hbd4
 have CS := same_ints (c := c4) (c2 := 2) (hc4.below hbY4) hcY4 (by decide)
 have HY4 := Lib.hid (HX4.out.below hbY4)
 clear CE hbX4 hc4 hlc4 hbY4 hcY4 HX4
 simp only [pu]
 refine gw_build (by kernel_rfl) (some 67) rfl 22 2 #[(0, .const (.int .i64 1)), (1, .const (.int .i64 3))] rfl #[(0, .int .i64 1), (1, .int .i64 3)] (by kernel_rfl) (.slice (some ⟨X4.heap.size, 0, none⟩) 2 2) _ hbd4 ?_
 simp only [pu]
 refine gzc (.bool true) (fun w' => Below Y4.heap.size Y4 w') (CS) (fun Z4 hbZ => ?_)
 have HZ4 := Lib.hid (HY4.out.below hbZ)
 clear hbZ CS hbd4 hY4 HY4
 have CE := q_exp HZ4.out.a.rep (by simp only [List.length_cons, List.length_nil]; omega) HI.out.1 HI.out.2.2.2.2.1 (h := 9223372036854775807) (t := 5) HI.out.2.2.2.2.2.2.1 HI.out.2.2.2.2.2.1
 rw [HED.out.a3] at CE
 simp only [pu]
 refine gz3 (.bool true) (.bool true) (.pointer (some ⟨ga, 0, none⟩)) <| gze (fun v w' => ∃ a c, v = .slice a (List.length ([1] : List Int)) c ∧ Cs w' a (icells ([1] : List Int)) ∧ List.length ([1] : List Int) ≤ c ∧ Below Z4.heap.size Z4 w') (CE.mono fun e w' z => z.cs) (fun vv X5 hq => ?_)
 obtain ⟨a5, c5, rfl, hc5, hlc5, hbX5⟩ := hq
 have HX5 := Lib.hid (HZ4.out.below hbX5)
 clear HZ4
 obtain ⟨Y5, hY5⟩ : ∃ W, X5.alloc (.cells (icells [1]).toArray 3) = W := ⟨_, rfl⟩
 have hbY5 : Below X5.heap.size X5 Y5 := by rw [← hY5]; exact (Below.refl _ X5).alloc (Nat.le_refl _) _
 have hcY5 : Cs Y5 (some ⟨X5.heap.size, 0, none⟩) (icells [1]) := Cs.block (by rw [← hY5]; exact heap_alloc_last X5 _)
 have hbd5 := one_ints 1 X5
 rw [hY5] at hbd5
 have CS := same_ints (c := c5) (c2 := 1) (hc5.below hbY5) hcY5 (by decide)
 have HY5 := Lib.hid (HX5.out.below hbY5)
 clear CE hbX5 hc5 hlc5 hbY5 hcY5 HX5
 simp only [pu]
 refine gw_build (by kernel_rfl) (some 73) rfl 22 1 #[(0, .const (.int .i64 1))] rfl #[(0, .int .i64 1)] (by kernel_rfl) (.slice (some ⟨X5.heap.size, 0, none⟩) 1 1) _ hbd5 ?_
 simp only [pu]
 refine gzc (.bool true) (fun w' => Below Y5.heap.size Y5 w') (CS) (fun Z5 hbZ => ?_)
 have HZ5 := Lib.hid (HY5.out.below hbZ)
 clear hbZ CS hbd5 hY5 HY5
 have CE := q_exp HZ5.out.b.rep (by simp only [List.length_cons, List.length_nil]; omega) HI.out.2.2.2.2.1 HI.out.1 (h := 9223372036854775807) (t := -9223372036854775808) HI.out.2.2.2.2.2.2.1 HI.out.2.2.2.2.2.2.2
 rw [HED.out.b3] at CE
 simp only [pu]
 refine gz3 (.bool true) (.bool true) (.pointer (some ⟨gb, 0, none⟩)) <| gze (fun v w' => ∃ a c, v = .slice a (List.length ([] : List Int)) c ∧ Cs w' a (icells ([] : List Int)) ∧ List.length ([] : List Int) ≤ c ∧ Below Z5.heap.size Z5 w') (CE.mono fun e w' z => z.cs) (fun vv X6 hq => ?_)
 obtain ⟨a6, c6, rfl, hc6, hlc6, hbX6⟩ := hq
 have HX6 := Lib.hid (HZ5.out.below hbX6)
 have HB6 := Lib.hid HX6.out.a.bel
 clear CE hbX6 hc6 hlc6 HZ5 HX6
 have CA0 := add_nil 1 at9 at9 X6
 have CR0 := rem_nil 1 X6
 have CE0 := exp_nil at9 at9 X6
 simp only [pu]
 refine gz1 (.int .i64 0) <| gzb (eql_nn rfl 0 0 (decide_eq_true rfl)) <| gz5 (.bool true) (.bool true) (.pointer none) (.int .i64 at9) (.int .i64 at9) <| gzc (.bool false) (fun w' => X6 = w') (CA0) (fun V9 hV9 => ?_)
 subst hV9
 simp only [pu]
 refine gz4 (.bool true) (.bool true) (.bool true) (.pointer none) <| gzc (.bool false) (fun w' => X6 = w') (CR0) (fun V9 hV9 => ?_)
 subst hV9
 simp only [pu]
 refine gz6 (.bool true) (.bool true) (.bool true) (.pointer none) (.int .i64 at9) (.int .i64 at9) <| gze (fun v w' => ∃ a c, v = .slice a (List.length ([] : List Int)) c ∧ Cs w' a (icells ([] : List Int)) ∧ List.length ([] : List Int) ≤ c ∧ Below X6.heap.size X6 w') (CE0.mono fun e w' z => z.cs) (fun vv X7 hq => ?_)
 obtain ⟨a7, c7, rfl, hc7, hlc7, hbX7⟩ := hq
 have HB7 := Lib.hid (HB6.out.trans (hbX7.mono HB6.out.size))
 clear CE0 hbX7 hc7 hlc7 HB6
 have CL0 := q_len0 X7
 have CK := known_true X7
 simp only [pu]
 refine gz1 (.int .i64 0) <| gzb (eql_nn rfl 0 0 (decide_eq_true rfl)) <| gz3 (.bool true) (.bool true) (.pointer none) <| gzc (.int .i64 0) (fun w' => X7 = w') (CL0) (fun V9 hV9 => ?_)
 subst hV9
 simp only [pu]
 refine gzb (eql_nn rfl 0 0 (decide_eq_true rfl)) <| gz2 (.bool true) (.bool true) <| gzc (.bool true) (fun w' => Below X7.heap.size X7 w') (CK) (fun V9 hV9 => ?_)
 have HE := Lib.hid (HB7.out.trans (hV9.mono HB7.out.size))
 simp only [pu]
 refine gz2 (.bool true) (.bool true) <| wn ?_
 simp only [pu]
 clear hV9 HB7 CK CL0
 go_wp2_with fail
 go_ret
 exact ⟨rfl, HE.out⟩
end Go.Proofs.Ytdjphghoollejaa
