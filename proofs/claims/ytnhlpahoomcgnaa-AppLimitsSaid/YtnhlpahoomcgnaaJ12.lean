/-
  Texts LP LG joined.
-/
import Derived.Test.YtnhlpahoomcgnaaJ11
import Derived.Deep.DeepCutAuto
import Derived.Laws.Cover3
import Derived.Test.YtnhlpahoomcgnaaJ1
set_option maxRecDepth 100000
set_option maxHeartbeats 8000000
set_option linter.unusedSimpArgs false
set_option linter.unusedVariables false
namespace Go.Proofs.Ytnhlpahoomcgnaa.Lg
attribute [local irreducible] wpList wpQuiet
open Go.RowKit
theorem TA (w : World) (B : Nat) : ZB w B (.slice none 0 0) [] := World.ownsRow_nil _ _ _ _
theorem yZ {w : World} {A : List Ac} (h : Cs w none (acc A)) : A = [] := by
 cases A with
 | nil => rfl
 | cons x r =>
  obtain ⟨b, off, e, -⟩ := h 0 (.string x.1) rfl
  cases e
theorem JD {w : World} {B : Nat} {v : Value} {A : List Ac} (h : ZB w B v A) (hB : B ≤ w.heap.size) (pa : Option Addr) (cp : Nat) (L : List Ac) (hP : Cs w pa (acc L)) (hl : (A.length + L.length) * 32 ≤ 140737488355328) :
  ∃ a c V2, (Builtin.append_ #[22, 22] 22 #[v, .slice pa L.length cp]).run Try.prog w = .ok (.slice a (A.length + L.length) c) V2 ∧ ZB V2 B (.slice a (A.length + L.length) c) (A ++ L) ∧ Below B w V2 ∧ w.grownBy V2 v.ownBlock ∧ ((Value.slice a (A.length + L.length) c).ownBlock = v.ownBlock ∨ (Value.slice a (A.length + L.length) c).ownBlock = some w.heap.size) := by
 obtain ⟨v2, V2, hr, hO, hb, hg, hat⟩ := Ua (P := Try.prog) (t := 22) (e := 49) (m := L.length) Try.underlying22 VH (by kernel_rfl) (by omega) h pa cp (acc L) hP (Yd L) (QW L) hB (by omega) hl
 have hO2 : ZB V2 B v2 (A ++ L) := by unfold ZB; rw [List.length_append, QV]; exact hO
 obtain ⟨a, c, rfl, -, -⟩ := hO2.cs
 rw [List.length_append] at hr hO2 hat
 exact ⟨a, c, V2, hr, hO2, hb, hg, hat⟩
theorem Iq {ρ : Operand → Value} {o : Oper} {x y : Operand} (ho : o.op = .binOp .eql 22 x y 22) (a : Option Addr) (n c : Nat) (hx : ρ x = .slice a n c) (hy : ρ y = .slice none 0 0) (w : World) : (execOp ρ o).run Try.prog w = .ok (.value (.bool a.isNone)) w := by
 have h := run_equal_slice_nil (P := Try.prog) w 22 49 a n c Try.underlying22
 have e : (binOp .eql 22 (.slice a n c) (.slice none 0 0)).run Try.prog w = .ok (.bool a.isNone) w := by
  show Sem.run Try.prog (do pure (Value.bool (← Op.equal 22 (.slice a n c) (.slice none 0 0))) : Sem Value) w = _
  simp only [Sem.run_bind, h, Result.andThen_ok]
  rfl
 unfold execOp
 simp only [ho, hx, hy]
 go_simp
theorem UO (a : Option Addr) (k : Nat) (A : List Ac) (w : World) (hR : Cs w a (acc A)) (hn : A.length ≤ 4398046511104) :
  Calls Try.prog 35 #[.slice a A.length k] w fun e w' => ∃ v, e = .returned v ∧ ZB w' w.heap.size v A ∧ Below w.heap.size w w' := by
 cases a with
 | none =>
  obtain rfl := yZ hR
  go_enter Try.func35, Try.ntmps35
  go_upto_region 1 with fail
  refine wl <| ZV (.slice none ([] : List Ac).length k) <| YN Z4 (Iq rfl none 0 k) <| wn ?_
  simp only [pu]
  go_upto_region 2 with fail
  refine wl <| ZV (.slice none 0 0) <| wn ?_
  simp only [pu]
  go_wp2_with fail
  go_ret
  exact ⟨_, rfl, TA _ _, Below.refl _ _⟩
 | some ad =>
  have hnl := Oc w
  have hb1 : Below w.heap.size w (w.alloc (.cells #[] 49)) := (Below.refl _ w).alloc (Nat.le_refl _) _
  have hr1 : ZB (w.alloc (.cells #[] 49)) w.heap.size (.slice (some ⟨w.heap.size, 0, none⟩) 0 0) [] := Ob w 49 3
  obtain ⟨a2, c2, V2, hap, hr2, hb2, -, -⟩ := JD hr1 hb1.size (some ad) k A (hR.below hb1) (by simp only [List.length_nil]; omega)
  rw [List.nil_append] at hr2
  simp only [List.length_nil, Nat.zero_add] at hap hr2
  have HE : Hid (ZB V2 w.heap.size (.slice a2 A.length c2) A ∧ Below w.heap.size w V2) := Z9 ⟨hr2, hb1.trans hb2⟩
  generalize w.alloc (.cells #[] 49) = W1 at *
  generalize A.length = n at *
  clear hb1 hr1 hr2 hb2 hR hn
  go_enter Try.func35, Try.ntmps35
  go_upto_region 1 with fail
  refine wl <| ZV (.slice (some ad) n k) <| YN ZY (Iq rfl (some ad) n k) <| wn ?_
  simp only [pu]
  go_upto_region 3 with fail
  apply wp_region_lit
  refine Zh (by kernel_rfl) (some 5) rfl 22 0 #[] rfl #[] (by kernel_rfl) (.slice (some ⟨w.heap.size, 0, none⟩) 0 0) _ hnl ?_
  simp only [pu]
  refine ZV (.slice (some ad) n k) ?_
  simp only [pu]
  refine Y4 rfl (some 7) rfl 22 rfl (.tmp 5) (.tmp 6) 22 rfl (.slice (some ⟨w.heap.size, 0, none⟩) 0 0) (.slice (some ad) n k) (.slice a2 n c2) V2 (by kernel_rfl) (by kernel_rfl) hap ?_
  simp only [pu]
  refine ZV (.slice a2 n c2) <| wn ?_
  simp only [pu]
  clear hap hnl
  go_wp2_with fail
  go_ret
  exact ⟨_, rfl, HE.out⟩
theorem L9 (v : Value) (A : List Ac) (x : Ac) (i B : Nat) (w : World) (hR : ZB w B v A) (hB : B ≤ w.heap.size) (hi : i ≤ A.length) (hn : A.length ≤ 1000) :
  Calls Try.prog 33 #[v, Z8 i, .agg (ZA x)] w fun e w' => ∃ v', e = .returned v' ∧ ZB w' B v' (A.take i ++ x :: A.drop i) ∧ Below B w w' := by
 have hb0 : Below w.heap.size w (w.alloc (.cells (ZA x) 49)) := (Below.refl _ w).alloc (Nat.le_refl _) _
 have hX0 : Bx (w.alloc (.cells (ZA x) 49)) w.heap.size (ZA x) 49 := heap_alloc_last w _
 have hsz : (w.alloc (.cells (ZA x) 49)).heap.size = w.heap.size + 1 := by simp
 have hr0 := own_below hR hb0
 have hne : v.ownBlock ≠ some w.heap.size := fun e => by have := (World.ownsRow.lt hR _ e).2; omega
 have jR := Z9 (yY A x i hi)
 have ay := Z9 hB
 go_enter Try.func33, Try.ntmps33
 go_upto_region 1 with fail
 change Code.wp _ _ _ _ (w.alloc (.cells (ZA x) 49))
 generalize w.alloc (.cells (ZA x) 49) = W at *
 have hbu := Wp x W
 have hb1 : Below W.heap.size W (W.alloc (.cells (ZA x) 49)) := (Below.refl _ W).alloc (Nat.le_refl _) _
 have hr1 : ZB (W.alloc (.cells (ZA x) 49)) B v A := own_below hr0 hb1
 have hc1 : Cs (W.alloc (.cells (ZA x) 49)) (some ⟨W.heap.size, 0, none⟩) (acc [x]) := Cs.block (t := 49) (fr := (0, 0)) (cs := acl x) (heap_alloc_last W (.cells (ZA x) 49))
 have hX1 := hX0.below hX0.lt hb1
 obtain ⟨a2, c2, V2, hap, hr2, hb2, hg2, VG⟩ := JD hr1 (by have := hb0.size; have := hb1.size; omega) (some ⟨W.heap.size, 0, none⟩) 1 [x] hc1 (by simp only [List.length_cons, List.length_nil]; omega)
 simp only [List.length_cons, List.length_nil, Nat.zero_add] at hap hr2 VG
 have hX2 : Bx V2 w.heap.size (ZA x) 49 := (hg2.block _ hX1.lt (Ne.symm hne)).trans hX1
 have hs1 : (W.alloc (.cells (ZA x) 49)).heap.size = w.heap.size + 2 := by simp [hsz]
 have hnm := Yj hr2
 obtain ⟨g2, e2, hg3, -⟩ := VI (show V2.ownsRow B 49 3 (.slice a2 (A.length + 1) c2) (A.length + 1) (acc (A ++ [x])) by have := hr2; unfold ZB at this; rw [List.length_append] at this; exact this) (by omega)
 subst e2
 have hgn : g2 ≠ w.heap.size := fun e => by
  subst e
  rcases VG with h | h
  ·exact hne h.symm
  ·simp only [Value.ownBlock, Option.some.injEq] at h
   omega
 have jQ := (hb0.mono hB).trans ((hb1.mono (by have := hb0.size; omega)).trans hb2)
 have Sm := Z9 jQ
 have HN := Z9 hn
 have HI := Z9 hi
 obtain ⟨g5, hg5⟩ := ZR w.heap.size
 have Yr := Z9 hX2
 have HR2 := Z9 hr2
 have HGN := Z9 hgn
 rw [hg5] at Yr HGN hX0
 simp only [hg5]
 generalize W.alloc (.cells (ZA x) 49) = W1 at *
 obtain ⟨g6, Vk⟩ := ZR W.heap.size
 rw [Vk] at hap hbu
 obtain ⟨n, hnn⟩ := ZR A.length
 have HNN := Z9 hnn
 rw [hnn] at hap HR2 HN HI jR
 clear hnm VG hg2 hX2 hX1 hc1 hr1 hb1 hr0 hne hb0 jQ hg5 Vk hs1 hsz hb2 hr2 hg3 hgn hnn hn hi hR hB
 refine wl <| ZV (v) <| ZI rfl ⟨g5, 0, none⟩ (.agg (ZA x)) (Zn hX0) ?_
 simp only [pu]
 refine Zh (by kernel_rfl) (some 9) rfl 22 1 #[(0, .tmp 8)] rfl #[(0, .agg (ZA x))] (by kernel_rfl) (.slice (some ⟨g6, 0, none⟩) 1 1) _ hbu ?_
 simp only [pu]
 refine Y4 rfl (some 10) rfl 22 rfl (.tmp 7) (.tmp 9) 22 rfl (v) (.slice (some ⟨g6, 0, none⟩) 1 1) (.slice (some ⟨g2, 0, none⟩) (n + 1) c2) V2 (by kernel_rfl) (by kernel_rfl) hap ?_
 simp only [pu]
 refine ZV (.slice (some ⟨g2, 0, none⟩) (n + 1) c2) <| wn ?_
 simp only [pu]
 clear hap hbu hX0
 go_upto_region 2 with fail
 have hlx : (A ++ [x]).length = n + 1 := by rw [List.length_append, HNN.out]; rfl
 have PS := Z9 hlx
 have h0 : (false = false → ZB V2.drew B (.slice (some ⟨g2, 0, none⟩) (n + 1) c2) (A ++ [x]) ∧ Below B V2 V2.drew ∧ But g2 V2 V2.drew) ∧ (false = true → ZB V2.drew B (.slice (some ⟨g2, 0, none⟩) (n + 1) c2) ((A ++ [x]).take (i + 1) ++ ((A ++ [x]).drop i).take (n + 1 - (i + 1))) ∧ Below B V2 V2.drew ∧ But g2 V2 V2.drew) := ⟨fun _ => ⟨own_below HR2.out ((Below.refl _ V2).drew), (Below.refl _ V2).drew, ⟨(Below.refl _ V2).drew, fun k hk _ => rfl⟩⟩, fun h => (by cases h)⟩
 clear hlx
 refine Y5 (fun listed Zr V => ∃ b0 b1 b2 b3 b4 b5 b6 b7 : Bool, ∃ x18 : Value, listed = #[b0, b1, b2, b3, b4, b5, b6, b7] ∧ Zr = { tmps := #[.slice (some ⟨g2, 0, none⟩) (n + 1) c2, Z8 i, .agg (ZA x), undef, undef, Z5 g5 0, .slice none 0 0, v, .agg (ZA x), .slice (some ⟨g6, 0, none⟩) 1 1, .slice (some ⟨g2, 0, none⟩) (n + 1) c2, (cond b0 (.slice (some ⟨g2, 0, none⟩) (n + 1) c2) undef), (cond b1 (Z8 i) undef), (cond b2 (Z8 (i + 1 : Nat)) undef), (cond b3 (.slice (Zc 3 (some ⟨g2, 0, none⟩) c2 (i + 1)) (n + 1 - (i + 1)) (c2 - (i + 1))) undef), (cond b4 (.slice (some ⟨g2, 0, none⟩) (n + 1) c2) undef), (cond b5 (Z8 i) undef), (cond b6 (.slice (Zc 3 (some ⟨g2, 0, none⟩) c2 i) (n + 1 - i) (c2 - i)) undef), x18, undef, undef, undef, undef, undef], defers := [] } ∧ (b7 = false → ZB V B (.slice (some ⟨g2, 0, none⟩) (n + 1) c2) (A ++ [x]) ∧ Below B V2 V ∧ But g2 V2 V) ∧ (b7 = true → ZB V B (.slice (some ⟨g2, 0, none⟩) (n + 1) c2) ((A ++ [x]).take (i + 1) ++ ((A ++ [x]).drop i).take (n + 1 - (i + 1))) ∧ Below B V2 V ∧ But g2 V2 V)) (by kernel_rfl) (by kernel_rfl) ?_ ?_ ?_
 ·exact ⟨_, _, _, _, _, _, _, _, _, rfl, rfl, h0⟩
 ·intro i9 listed Zr V hi9 hr hJ
  obtain ⟨b0, b1, b2, b3, b4, b5, b6, b7, x18, rfl, rfl, hF⟩ := hJ
  have hi2 : i9 < 8 := hi9
  have hi3 : i9 = 0 ∨ i9 = 1 ∨ i9 = 2 ∨ i9 = 3 ∨ i9 = 4 ∨ i9 = 5 ∨ i9 = 6 ∨ i9 = 7 := by omega
  rcases hi3 with rfl | rfl | rfl | rfl | rfl | rfl | rfl | rfl
  ·obtain rfl : b0 = false := ZX hr
   refine ZO rfl (by kernel_rfl) (some 11) rfl (.slice (some ⟨g2, 0, none⟩) (n + 1) c2) V (by kernel_rfl) ?_
   exact ⟨_, _, _, _, _, _, _, _, _, rfl, rfl, hF⟩
  ·obtain rfl : b1 = false := ZX hr
   refine ZO rfl (by kernel_rfl) (some 12) rfl (Z8 i) V (by kernel_rfl) ?_
   exact ⟨_, _, _, _, _, _, _, _, _, rfl, rfl, hF⟩
  ·obtain rfl : b2 = false := ZX hr
   obtain rfl : b1 = true := ZW hr 1
   refine ZO rfl (by kernel_rfl) (some 13) rfl (Z8 (i + 1 : Nat)) V (ZK rfl i 1 (by have := HI.out; have := HN.out; omega) (by kernel_rfl) (by kernel_rfl) _) ?_
   exact ⟨_, _, _, _, _, _, _, _, _, rfl, rfl, hF⟩
  ·obtain rfl : b3 = false := ZX hr
   obtain rfl : b0 = true := ZW hr 0
   obtain rfl : b2 = true := ZW hr 2
   refine XA rfl (by kernel_rfl) (some 14) rfl 22 (.tmp 11) (.tmp 13) rfl (.slice (some ⟨g2, 0, none⟩) (n + 1) c2) (Z8 (i + 1 : Nat)) (.slice (Zc 3 (some ⟨g2, 0, none⟩) c2 (i + 1)) (n + 1 - (i + 1)) (c2 - (i + 1))) (by kernel_rfl) (by kernel_rfl) (WE (some ⟨g2, 0, none⟩) (n + 1) c2 (i + 1) V (by have := HI.out; omega)) ?_
   exact ⟨_, _, _, _, _, _, _, _, _, rfl, rfl, hF⟩
  ·obtain rfl : b4 = false := ZX hr
   refine ZO rfl (by kernel_rfl) (some 15) rfl (.slice (some ⟨g2, 0, none⟩) (n + 1) c2) V (by kernel_rfl) ?_
   exact ⟨_, _, _, _, _, _, _, _, _, rfl, rfl, hF⟩
  ·obtain rfl : b5 = false := ZX hr
   refine ZO rfl (by kernel_rfl) (some 16) rfl (Z8 i) V (by kernel_rfl) ?_
   exact ⟨_, _, _, _, _, _, _, _, _, rfl, rfl, hF⟩
  ·obtain rfl : b6 = false := ZX hr
   obtain rfl : b4 = true := ZW hr 4
   obtain rfl : b5 = true := ZW hr 5
   refine XA rfl (by kernel_rfl) (some 17) rfl 22 (.tmp 15) (.tmp 16) rfl (.slice (some ⟨g2, 0, none⟩) (n + 1) c2) (Z8 i) (.slice (Zc 3 (some ⟨g2, 0, none⟩) c2 i) (n + 1 - i) (c2 - i)) (by kernel_rfl) (by kernel_rfl) (WE (some ⟨g2, 0, none⟩) (n + 1) c2 i V (by have := HI.out; omega)) ?_
   exact ⟨_, _, _, _, _, _, _, _, _, rfl, rfl, hF⟩
  ·obtain rfl : b7 = false := ZX hr
   obtain rfl : b3 = true := ZW hr 3
   obtain rfl : b6 = true := ZW hr 6
   obtain ⟨hr, hb, hbt⟩ := hF.1 rfl
   obtain ⟨v, V3, hcp, hr3, hb3, Sj⟩ := yX (n := n + 1) (i := i) hr PS.out.symm (by have := HI.out; omega) 3
   refine yV rfl (by kernel_rfl) (some 18) rfl 3 rfl (.tmp 14) (.tmp 17) 22 rfl (.slice (Zc 3 (some ⟨g2, 0, none⟩) c2 (i + 1)) (n + 1 - (i + 1)) (c2 - (i + 1))) (.slice (Zc 3 (some ⟨g2, 0, none⟩) c2 i) (n + 1 - i) (c2 - i)) v V3 (by kernel_rfl) (by kernel_rfl) hcp ?_
   exact ⟨b0, b1, b2, true, b4, b5, true, true, v, rfl, rfl, fun h => (by cases h), fun _ => ⟨hr3, hb.trans hb3, hbt.trans Sj⟩⟩
 ·intro Zr V hJ
  obtain ⟨b0, b1, b2, b3, b4, b5, b6, b7, x18, he, rfl, hF⟩ := hJ
  have he : (#[true, true, true, true, true, true, true, true] : Array Bool) = #[b0, b1, b2, b3, b4, b5, b6, b7] := he
  simp only [Array.mk.injEq, List.cons.injEq, and_true] at he
  obtain ⟨rfl, rfl, rfl, rfl, rfl, rfl, rfl, rfl⟩ := he
  simp only [cond_true]
  obtain ⟨hr, hb, hbt⟩ := hF.2 rfl
  have hl4 : ((A ++ [x]).take (i + 1) ++ ((A ++ [x]).drop i).take (n + 1 - (i + 1))).length = n + 1 := by
   have := PS.out
   have := HI.out
   rw [List.length_append, List.length_take, List.length_take, List.length_drop]
   omega
  obtain ⟨V4, hst, hr4, hb4, LQ⟩ := JJ hr hl4.symm (i := i) (by rw [hl4]; have := HI.out; omega) x
  rw [jR.out] at hr4
  have YK := Z9 (Yr.out.but hbt (Ne.symm HGN.out))
  have HE : Hid (ZB V4 B (.slice (some ⟨g2, 0, none⟩) (n + 1) c2) (A.take i ++ x :: A.drop i) ∧ Below B w V4) := Z9 ⟨hr4, Sm.out.trans (hb.trans hb4)⟩
  clear hF h0 hr hb hbt hr4 hb4 LQ hl4 Yr HR2
  go_upto_region 3 with fail
  refine wl <| ZG (.slice (some ⟨g2, 0, none⟩) (n + 1) c2) (Z8 i) <| ZI rfl ⟨g5, 0, none⟩ (.agg (ZA x)) (Zn YK.out) <| YO (Z5 g2 (0 + i * 3)) (YR g2 0 (n + 1) c2 i (by have := HI.out; omega) _ _ _ rfl (by kernel_rfl) (by kernel_rfl)) <|
   Zt rfl (hst) <| wn ?_
  simp only [pu]
  clear hst YK
  go_upto_region 4 with fail
  refine wl <| ZG (.slice (some ⟨g2, 0, none⟩) (n + 1) c2) (.slice (some ⟨g2, 0, none⟩) (n + 1) c2) <| wn ?_
  simp only [pu]
  go_wp2_with fail
  go_ret
  exact ⟨_, rfl, HE.out⟩
theorem y7 (al : Option Addr) (c : Nat) (M : List Ac) (x : Ac) (w : World) (hR : Cs w al (acc M)) (hcc : M.length ≤ c) (hl : M.length ≤ 1000) :
  Calls Try.prog 38 #[.slice al M.length c, .agg (ZA x)] w fun e w' => ∃ v, e = .returned v ∧ ZB w' w.heap.size v (Y9 M x) ∧ Below w.heap.size w w' := by
 have hb0 : Below w.heap.size w (w.alloc (.cells (ZA x) 49)) := (Below.refl _ w).alloc (Nat.le_refl _) _
 have hX0 : Bx (w.alloc (.cells (ZA x) 49)) w.heap.size (ZA x) 49 := heap_alloc_last w _
 have HA := Z9 (hR.below hb0)
 have CF := LU al c M x.1 (w.alloc (.cells (ZA x) 49)) (hR.below hb0) (by omega)
 have rD := Z9 (@WY M x)
 have rC : Hid (¬ Ze M x.1 < M.length → ∀ k, k ≤ M.length → (∀ t, t < k → WG (aca M t).1 x.1 = true) → (k < M.length → WG (aca M k).1 x.1 = false) → Y9 M x = M.take k ++ [x] ++ M.drop k) := Z9 fun h k h1 h2 h3 => by
  rw [VO h, JC h1 h2 h3, List.append_assoc, List.singleton_append]
 obtain ⟨P, hP⟩ := ZR (Y9 M x)
 rw [hP] at rD rC
 rw [hP]
 obtain ⟨r, hr⟩ := ZR (Og M x.1)
 rw [hr] at CF
 have Em : Hid ((Ze M x.1 < M.length → r = (Ze M x.1 : Nat)) ∧ (¬ Ze M x.1 < M.length → r = -1)) := Z9 ⟨fun h => by rw [← hr]; exact if_pos h, fun h => by rw [← hr]; exact if_neg h⟩
 obtain ⟨n, hn⟩ := ZR M.length
 have HN := Z9 hn
 rw [hn] at hl hcc rD rC Em CF ⊢
 generalize Ze M x.1 = fl at *
 clear hR hn hP hr
 go_enter Try.func38, Try.ntmps38
 go_upto_region 1 with fail
 change Code.wp _ _ _ _ (w.alloc (.cells (ZA x) 49))
 generalize w.alloc (.cells (ZA x) 49) = W at *
 obtain ⟨g0, hg0⟩ := ZR w.heap.size
 have HB0 := Z9 hb0
 rw [hg0] at hX0
 simp only [hg0]
 have HX0 := Z9 hX0
 clear hb0 hg0 hX0
 refine wl <| ZG (.slice al n c) (Z5 g0 0) <| ZI rfl ⟨g0, 0, none⟩ (.string x.1) (HX0.out.ZN 0) <| Y2 (Z8 r) (fun w' => Below W.heap.size W w') (CF) (fun W1 hW1 => ?_)
 have HB1 := Z9 (HB0.out.trans (hW1.mono HB0.out.size))
 have XP := Z9 (HX0.out.below HX0.out.lt hW1)
 have HA1 := Z9 (HA.out.below hW1)
 simp only [pu]
 refine ZV (Z8 r) <| wn ?_
 simp only [pu]
 clear CF hW1 HX0 HA HB0
 by_cases hf : fl < n
 ·obtain rfl := Em.out.1 hf
  obtain rfl := rD.out hf
  have hnl := Oc W1
  have hb1 : Below W1.heap.size W1 (W1.alloc (.cells #[] 49)) := (Below.refl _ W1).alloc (Nat.le_refl _) _
  have hr1 : ZB (W1.alloc (.cells #[] 49)) W1.heap.size (.slice (some ⟨W1.heap.size, 0, none⟩) 0 0) [] := Ob W1 49 3
  obtain ⟨a2, c2, V2, hap, hr2, hb2, -, -⟩ := JD hr1 hb1.size al c M (HA1.out.below hb1) (by rw [HN.out]; simp only [List.length_nil]; omega)
  rw [List.nil_append] at hr2
  rw [HN.out] at hap hr2
  simp only [List.length_nil, Nat.zero_add] at hap hr2
  obtain ⟨g2, e2, hg2, -⟩ := VI (show V2.ownsRow W1.heap.size 49 3 (.slice a2 n c2) n (acc M) by have := hr2; unfold ZB at this; rw [HN.out] at this; exact this) (by omega)
  subst e2
  obtain ⟨V3, hst, hr3, hb3, -⟩ := JJ hr2 HN.out.symm (i := fl) (by rw [HN.out]; exact hf) x
  have Yr := Z9 (XP.out.below XP.out.lt (hb1.trans hb2))
  have HE : Hid (ZB V3 w.heap.size (.slice (some ⟨g2, 0, none⟩) n c2) (M.set fl x) ∧ Below w.heap.size w V3) := Z9 ⟨own_base hr3 HB1.out.size, HB1.out.trans (((hb1.trans hb2).trans hb3).mono HB1.out.size)⟩
  generalize W1.alloc (.cells #[] 49) = W2 at *
  clear hb1 hr1 hr2 hb2 hr3 hb3 hg2 Em rD rC
  go_upto_region 2 with fail
  refine wl <| ZV (Z8 (fl : Nat)) <| ZM (Uj rfl (fl : Nat) 0 dT) <| wn ?_
  simp only [pu]
  go_upto_region 3 with fail
  apply wp_region_lit
  refine Zh (by kernel_rfl) (some 14) rfl 22 0 #[] rfl #[] (by kernel_rfl) (.slice (some ⟨W1.heap.size, 0, none⟩) 0 0) _ hnl ?_
  simp only [pu]
  refine ZV (.slice al n c) ?_
  simp only [pu]
  refine Y4 rfl (some 16) rfl 22 rfl (.tmp 14) (.tmp 15) 22 rfl (.slice (some ⟨W1.heap.size, 0, none⟩) 0 0) (.slice al n c) (.slice (some ⟨g2, 0, none⟩) n c2) V2 (by kernel_rfl) (by kernel_rfl) hap ?_
  simp only [pu]
  refine ZV (.slice (some ⟨g2, 0, none⟩) n c2) <| wn ?_
  simp only [pu]
  clear hap hnl
  go_upto_region 4 with fail
  refine wl <| ZG (.slice (some ⟨g2, 0, none⟩) n c2) (Z8 (fl : Nat)) <| ZI rfl ⟨g0, 0, none⟩ (.agg (ZA x)) (Zn Yr.out) <| YO (Z5 g2 (0 + fl * 3)) (YR g2 0 n c2 fl hf _ _ _ rfl (by kernel_rfl) (by kernel_rfl)) <| Zt rfl (hst) <| wn ?_
  simp only [pu]
  clear hst Yr
  go_upto_region 5 with fail
  refine wl <| ZG (.slice (some ⟨g2, 0, none⟩) n c2) (.slice (some ⟨g2, 0, none⟩) n c2) <| wn ?_
  simp only [pu]
  go_wp2_with fail
  go_ret
  exact ⟨_, rfl, HE.out⟩
 ·obtain rfl := Em.out.2 hf
  have dB := Z9 (rC.out hf)
  clear Em rD rC
  go_upto_region 2 with fail
  refine wl <| ZV (Z8 (-1)) <| ZM (Uj rfl (-1) 0 dF) <| wn ?_
  simp only [pu]
  go_upto_region 6 with fail
  refine wl <| ZV (Z8 0) <| wn ?_
  simp only [pu]
  go_wp2_with fail
  go_loopg [7] n (fun gg s7 wx => ∃ i : Nat, s7 = Z8 i ∧ i ≤ n ∧ Hid (∀ t, t < i → WG (aca M t).1 x.1 = true) ∧ Hid (Below W1.heap.size W1 wx) ∧ n - i = gg)
  case atStart => exact ⟨0, rfl, by omega, Z9 (fun t h => by omega), Z9 (Below.refl _ _), by omega⟩
  case round =>
   obtain ⟨i, rfl, hi, HO, HB, hg⟩ := hrel
   have HG := Z9 hg
   have JB := Z9 HB.out.drew
   have uG := Z9 (XP.out.below XP.out.lt JB.out)
   clear hg
   by_cases hlt : i < n
   ·obtain ⟨b, off, ea, -, hrx⟩ := YS (HA1.out.below JB.out) (k := i) (by rw [HN.out]; exact hlt)
    subst ea
    have PS := Z9 (uo hrx)
    generalize hy : aca M i = y at *
    clear hrx
    generalize yU : WG y.1 x.1 = au at *
    cases au
    ·go_upto_region 7 with fail
     refine ZF (C := fun U => U = wr.drew) (by kernel_rfl) (by kernel_rfl) (rfl) ?_
     refine gy (Z8 i) <| gy (.slice (some ⟨b, off, none⟩) n c) <| gy (Z8 n) <| X3 Z4 (fun U hU => ZC rfl (i) (n) dT (by kernel_rfl) (by kernel_rfl) _) <| gy Z4 <| gy (.slice (some ⟨b, off, none⟩) n c) <| gy (Z8 i) <|
       X3 (Z5 b (off + i * 3)) (fun U hU => YR b off n c i hlt _ _ _ rfl (by kernel_rfl) (by kernel_rfl)) <| gy (Z5 b (off + i * 3)) <| UN rfl ⟨b, off + i * 3, none⟩ (.string y.1) (fun U hU => by rw [hU]; exact PS.out.load) <|
       gy (Z5 g0 0) <| UN rfl ⟨g0, 0, none⟩ (.string x.1) (fun U hU => by rw [hU]; exact uG.out.ZN 0) <| X3 ZY (fun U hU => um rfl y.1 x.1 yU (by kernel_rfl) (by kernel_rfl) _) <| gy ZY ?_
     simp only [pu]
     apply wpQuiet_nil
     intro U hU
     subst hU
     have aj := Z9 (dB.out i hi HO.out (fun _ => by rw [hy]; exact yU))
     have Um := JB
     clear PS uG HO dB yU hy JB
     generalize wr.drew = V7 at *
     have Wu := Z9 (XP.out.below XP.out.lt Um.out)
     have Gp := Z9 (HA1.out.below Um.out)
     have Sm := Z9 (HB1.out.trans (Um.out.mono HB1.out.size))
     have J4 : Hid ((M.take i).length = i) := Z9 (by rw [List.length_take, HN.out]; omega)
     have ah : Hid ((M.drop i).length = n - i) := Z9 (by rw [List.length_drop, HN.out])
     have h0 := CH.start V7 x (M.take i) (M.take i ++ [x]) (M.take i ++ [x] ++ M.drop i) undef undef undef undef undef
     clear XP HA1 HB1 HB Um
     go_upto_region 9 with fail
     refine Y5 (fun listed Zr V => ∃ b0 b1 b2 b3 b4 b5 b6 b7 b8 b9 b10 b11 b12 : Bool, ∃ x38 x42 x44 x45 x49 : Value, listed = #[b0, b1, b2, b3, b4, b5, b6, b7, b8, b9, b10, b11, b12] ∧ Zr = { tmps := #[.slice (some ⟨b, off, none⟩) n c, .agg (ZA x), undef, Z5 g0 0, (cond b12 (x49) (.slice none 0 0)), Z8 (-1), undef, Z8 i, .slice (some ⟨b, off, none⟩) n c, Z5 g0 0, .string x.1, Z8 (-1), Z8 (-1), ZY, undef, undef, undef, undef, undef, undef, undef, undef, Z8 i, .slice (some ⟨b, off, none⟩) n c, Z8 n, Z4, Z4, .slice (some ⟨b, off, none⟩) n c, Z8 i, Z5 b (off + i * 3), Z5 b (off + i * 3), .string y.1, Z5 g0 0, .string x.1, ZY, ZY, u36, u37, x38, (cond b1 (.slice (some ⟨b, off, none⟩) n c) undef), (cond b2 (Z8 i) undef), (cond b3 (.slice (some ⟨b, off, none⟩) i c) undef), x42, (cond b5 (.agg (ZA x)) undef), x44, x45, (cond b8 (.slice (some ⟨b, off, none⟩) n c) undef), (cond b9 (Z8 i) undef), (cond b10 (.slice (Zc 3 (some ⟨b, off, none⟩) c i) (n - i) (c - i)) undef), x49], defers := [] } ∧ CH V7 x (M.take i) (M.take i ++ [x]) (M.take i ++ [x] ++ M.drop i) b0 b4 b7 b11 b6 x38 x42 x45 x49 x44 V ∧ (b12 = true → b11 = true)) (by kernel_rfl) (by kernel_rfl) ?_ ?_ ?_
     ·exact ⟨_, _, _, _, _, _, _, _, _, _, _, _, _, _, _, _, _, _, rfl, rfl, h0, fun h => (by cases h)⟩
     ·intro i9 listed Zr V hi9 hr hJ
      obtain ⟨b0, b1, b2, b3, b4, b5, b6, b7, b8, b9, b10, b11, b12, x38, x42, x44, x45, x49, rfl, rfl, hF, hA⟩ := hJ
      have hi2 : i9 < 13 := hi9
      have hi3 : i9 = 0 ∨ i9 = 1 ∨ i9 = 2 ∨ i9 = 3 ∨ i9 = 4 ∨ i9 = 5 ∨ i9 = 6 ∨ i9 = 7 ∨ i9 = 8 ∨ i9 = 9 ∨ i9 = 10 ∨ i9 = 11 ∨ i9 = 12 := by omega
      rcases hi3 with rfl | rfl | rfl | rfl | rfl | rfl | rfl | rfl | rfl | rfl | rfl | rfl | rfl
      ·obtain rfl : b0 = false := ZX hr
       obtain rfl : b4 = false := by cases b4; rfl; exact absurd (hF.c1 rfl) (by decide)
       obtain rfl : b7 = false := by cases b7; rfl; exact absurd (hF.c2 rfl) (by decide)
       obtain rfl : b11 = false := by cases b11; rfl; exact absurd (hF.c3 rfl) (by decide)
       refine Xw rfl (by kernel_rfl) (some 38) rfl 22 0 #[] rfl #[] (by kernel_rfl) (.slice (some ⟨V.heap.size, 0, none⟩) 0 0) _ (Oc V) ?_
       exact ⟨_, _, _, _, _, _, _, _, _, _, _, _, _, _, _, _, _, _, rfl, rfl, hF.nil, hA⟩
      ·obtain rfl : b1 = false := ZX hr
       refine ZO rfl (by kernel_rfl) (some 39) rfl (.slice (some ⟨b, off, none⟩) n c) V (by kernel_rfl) ?_
       exact ⟨_, _, _, _, _, _, _, _, _, _, _, _, _, _, _, _, _, _, rfl, rfl, hF, hA⟩
      ·obtain rfl : b2 = false := ZX hr
       refine ZO rfl (by kernel_rfl) (some 40) rfl (Z8 i) V (by kernel_rfl) ?_
       exact ⟨_, _, _, _, _, _, _, _, _, _, _, _, _, _, _, _, _, _, rfl, rfl, hF, hA⟩
      ·obtain rfl : b3 = false := ZX hr
       obtain rfl : b1 = true := ZW hr 1
       obtain rfl : b2 = true := ZW hr 2
       refine RF rfl (by kernel_rfl) (some 41) rfl 22 (.tmp 39) (.tmp 40) rfl (.slice (some ⟨b, off, none⟩) n c) (Z8 (i : Int)) (.slice (some ⟨b, off, none⟩) i c) (by kernel_rfl) (by kernel_rfl) (Ph (some ⟨b, off, none⟩) n c i V (by omega)) ?_
       exact ⟨_, _, _, _, _, _, _, _, _, _, _, _, _, _, _, _, _, _, rfl, rfl, hF, hA⟩
      ·obtain rfl : b4 = false := ZX hr
       obtain rfl : b0 = true := ZW hr 0
       obtain rfl : b3 = true := ZW hr 3
       obtain rfl : b7 = false := by cases b7; rfl; exact absurd (hF.c2 rfl) (by decide)
       obtain rfl : b11 = false := by cases b11; rfl; exact absurd (hF.c3 rfl) (by decide)
       have hO := hF.r0 rfl rfl
       obtain ⟨v, V2, hap, hO2, hb2, hg2, VG⟩ := hO.app hF.bel.size (some ⟨b, off, none⟩) i c (M.take i) (by rw [← Wi]; exact (Gp.out.below hF.bel).take _) J4.out (by simp) (by omega)
       refine XK rfl (by kernel_rfl) (some 42) rfl 22 rfl (.tmp 38) (.tmp 41) 22 rfl x38 (.slice (some ⟨b, off, none⟩) i c) v V2 (by kernel_rfl) (by kernel_rfl) hap ?_
       exact ⟨true, b1, b2, true, true, b5, b6, false, b8, b9, b10, false, b12, x38, v, x44, x45, x49, rfl, rfl, hF.one (by rw [List.nil_append] at hO2; exact hO2) hb2 hg2 VG, hA⟩
      ·obtain rfl : b5 = false := ZX hr
       refine Y7 rfl (by kernel_rfl) (some 43) rfl 49 (.tmp 3) rfl ⟨g0, 0, none⟩ (.agg (ZA x)) (by kernel_rfl) (Zn (Wu.out.below Wu.out.lt hF.bel)) ?_
       exact ⟨_, _, _, _, _, _, _, _, _, _, _, _, _, _, _, _, _, _, rfl, rfl, hF, hA⟩
      ·obtain rfl : b6 = false := ZX hr
       obtain rfl : b5 = true := ZW hr 5
       refine Xw rfl (by kernel_rfl) (some 44) rfl 22 1 #[(0, .tmp 43)] rfl #[(0, .agg (ZA x))] (by kernel_rfl) (.slice (some ⟨V.heap.size, 0, none⟩) 1 1) _ (Wp x V) ?_
       exact ⟨_, _, _, _, _, _, _, _, _, _, _, _, _, _, _, _, _, _, rfl, rfl, hF.key, hA⟩
      ·obtain rfl : b7 = false := ZX hr
       obtain rfl : b4 = true := ZW hr 4
       obtain rfl : b6 = true := ZW hr 6
       obtain rfl : b11 = false := by cases b11; rfl; exact absurd (hF.c3 rfl) (by decide)
       have hO := hF.r1 rfl rfl
       obtain ⟨gq, rfl, hgx, -⟩ := hF.kx rfl
       have hgc : Cs V (some ⟨gq, 0, none⟩) (acc [x]) := Cs.block (cs := acl x) hgx
       obtain ⟨v, V2, hap, hO2, hb2, hg2, VG⟩ := hO.app hF.bel.size (some ⟨gq, 0, none⟩) 1 1 [x] hgc rfl (by rw [J4.out]; omega) (by omega)
       refine XK rfl (by kernel_rfl) (some 45) rfl 22 rfl (.tmp 42) (.tmp 44) 22 rfl x42 (.slice (some ⟨gq, 0, none⟩) 1 1) v V2 (by kernel_rfl) (by kernel_rfl) hap ?_
       exact ⟨b0, b1, b2, b3, true, b5, true, true, b8, b9, b10, false, b12, x38, x42, _, v, x49, rfl, rfl, hF.two hO2 hb2 hg2 VG, hA⟩
      ·obtain rfl : b8 = false := ZX hr
       refine ZO rfl (by kernel_rfl) (some 46) rfl (.slice (some ⟨b, off, none⟩) n c) V (by kernel_rfl) ?_
       exact ⟨_, _, _, _, _, _, _, _, _, _, _, _, _, _, _, _, _, _, rfl, rfl, hF, hA⟩
      ·obtain rfl : b9 = false := ZX hr
       refine ZO rfl (by kernel_rfl) (some 47) rfl (Z8 i) V (by kernel_rfl) ?_
       exact ⟨_, _, _, _, _, _, _, _, _, _, _, _, _, _, _, _, _, _, rfl, rfl, hF, hA⟩
      ·obtain rfl : b10 = false := ZX hr
       obtain rfl : b8 = true := ZW hr 8
       obtain rfl : b9 = true := ZW hr 9
       refine XA rfl (by kernel_rfl) (some 48) rfl 22 (.tmp 46) (.tmp 47) rfl (.slice (some ⟨b, off, none⟩) n c) (Z8 ((i : Nat) : Int)) (.slice (Zc 3 (some ⟨b, off, none⟩) c i) (n - i) (c - i)) (by kernel_rfl) (by kernel_rfl) (WE (some ⟨b, off, none⟩) n c (i) V (by omega)) ?_
       exact ⟨_, _, _, _, _, _, _, _, _, _, _, _, _, _, _, _, _, _, rfl, rfl, hF, hA⟩
      ·obtain rfl : b11 = false := ZX hr
       obtain rfl : b7 = true := ZW hr 7
       obtain rfl : b10 = true := ZW hr 10
       obtain rfl : b12 = false := by cases b12; rfl; exact absurd (hA rfl) (by decide)
       have hO := hF.r2 rfl rfl
       obtain ⟨v, V2, hap, hO2, hb2, hg2, VG⟩ := hO.app hF.bel.size (Zc 3 (some ⟨b, off, none⟩) c i) (n - i) (c - i) (M.drop i) (by rw [← U8]; exact (Gp.out.below hF.bel).from 3 c i (by rw [Yd, HN.out]; omega)) ah.out (by rw [List.length_append, J4.out]; simp; omega) (by omega)
       refine XK rfl (by kernel_rfl) (some 49) rfl 22 rfl (.tmp 45) (.tmp 48) 22 rfl x45 (.slice (Zc 3 (some ⟨b, off, none⟩) c i) (n - i) (c - i)) v V2 (by kernel_rfl) (by kernel_rfl) hap ?_
       exact ⟨b0, b1, b2, b3, b4, b5, b6, true, b8, b9, true, true, false, x38, x42, x44, x45, v, rfl, rfl, hF.three hO2 hb2 hg2 VG, fun h => (by cases h)⟩
      ·obtain rfl : b12 = false := ZX hr
       obtain rfl : b11 = true := ZW hr 11
       refine ZO rfl (by kernel_rfl) (some 4) rfl (x49) V (by kernel_rfl) ?_
       exact ⟨_, _, _, _, _, _, _, _, _, _, _, _, _, _, _, _, _, _, rfl, rfl, hF, fun _ => rfl⟩
     ·intro Zr V hJ
      obtain ⟨b0, b1, b2, b3, b4, b5, b6, b7, b8, b9, b10, b11, b12, x38, x42, x44, x45, x49, he, rfl, hF, hA⟩ := hJ
      have he : (#[true, true, true, true, true, true, true, true, true, true, true, true, true] : Array Bool) = #[b0, b1, b2, b3, b4, b5, b6, b7, b8, b9, b10, b11, b12] := he
      simp only [Array.mk.injEq, List.cons.injEq, and_true] at he
      obtain ⟨rfl, rfl, rfl, rfl, rfl, rfl, rfl, rfl, rfl, rfl, rfl, rfl, rfl⟩ := he
      simp only [cond_true]
      have hO := hF.r3 rfl
      have HE : Hid (ZB V w.heap.size x49 P ∧ Below w.heap.size w V) := Z9 ⟨by rw [aj.out]; exact own_base hO Sm.out.size, Sm.out.trans (hF.bel.mono Sm.out.size)⟩
      clear hF h0 hO Wu Gp
      go_wp2_with fail
      go_ret
      exact ⟨_, rfl, HE.out⟩
    ·go_upto_region 7 with fail
     refine ZF (C := fun U => U = wr.drew) (by kernel_rfl) (by kernel_rfl) (rfl) ?_
     refine gy (Z8 i) <| gy (.slice (some ⟨b, off, none⟩) n c) <| gy (Z8 n) <| X3 Z4 (fun U hU => ZC rfl (i) (n) dT (by kernel_rfl) (by kernel_rfl) _) <| gy Z4 <| gy (.slice (some ⟨b, off, none⟩) n c) <| gy (Z8 i) <|
       X3 (Z5 b (off + i * 3)) (fun U hU => YR b off n c i hlt _ _ _ rfl (by kernel_rfl) (by kernel_rfl)) <| gy (Z5 b (off + i * 3)) <| UN rfl ⟨b, off + i * 3, none⟩ (.string y.1) (fun U hU => by rw [hU]; exact PS.out.load) <|
       gy (Z5 g0 0) <| UN rfl ⟨g0, 0, none⟩ (.string x.1) (fun U hU => by rw [hU]; exact uG.out.ZN 0) <| X3 Z4 (fun U hU => um rfl y.1 x.1 yU (by kernel_rfl) (by kernel_rfl) _) <| gy Z4 ?_
     simp only [pu]
     apply wpQuiet_nil
     intro U hU
     subst hU
     have Gq : Hid (∀ t, t < i + 1 → WG (aca M t).1 x.1 = true) := Z9 fun t ht => (by rcases Nat.lt_or_ge t i with h7 | h7; exact HO.out t h7; have e7 : t = i := (by omega); rw [e7, hy]; exact yU)
     clear PS uG HB HO yU hy
     go_upto_region 8 with fail
     refine wl <| ZV (Z8 i) <| YN (Z8 (i + 1 : Nat)) (ZK rfl i 1 (by omega)) <| ZV (Z8 (i + 1 : Nat)) <| wn ?_
     simp only [pu]
     go_wp2_with fail
     go_roundg (n - (i + 1))
     case measure => have := HG.out; omega
     case rel => exact ⟨i + 1, rfl, hlt, Gq, JB, rfl⟩
   ·go_upto_region 7 with fail
    refine ZF (C := fun U => U = wr.drew) (by kernel_rfl) (by kernel_rfl) (rfl) ?_
    refine gy (Z8 i) <| gy (.slice al n c) <| gy (Z8 n) <| X3 ZY (fun U hU => ZC rfl (i) (n) dF (by kernel_rfl) (by kernel_rfl) _) <| gy ZY <| SB <| SB <| SB <| SB <| SB <| SB <| SB <| SB <| gy ZY ?_
    simp only [pu]
    apply wpQuiet_nil
    intro U hU
    subst hU
    have aj := Z9 (dB.out i hi HO.out (fun h => absurd h hlt))
    have Um := JB
    clear uG HO dB JB
    generalize wr.drew = V7 at *
    have Wu := Z9 (XP.out.below XP.out.lt Um.out)
    have Gp := Z9 (HA1.out.below Um.out)
    have Sm := Z9 (HB1.out.trans (Um.out.mono HB1.out.size))
    have J4 : Hid ((M.take i).length = i) := Z9 (by rw [List.length_take, HN.out]; omega)
    have ah : Hid ((M.drop i).length = n - i) := Z9 (by rw [List.length_drop, HN.out])
    have h0 := CH.start V7 x (M.take i) (M.take i ++ [x]) (M.take i ++ [x] ++ M.drop i) undef undef undef undef undef
    clear XP HA1 HB1 HB Um
    go_upto_region 9 with fail
    refine Y5 (fun listed Zr V => ∃ b0 b1 b2 b3 b4 b5 b6 b7 b8 b9 b10 b11 b12 : Bool, ∃ x38 x42 x44 x45 x49 : Value, listed = #[b0, b1, b2, b3, b4, b5, b6, b7, b8, b9, b10, b11, b12] ∧ Zr = { tmps := #[.slice al n c, .agg (ZA x), undef, Z5 g0 0, (cond b12 (x49) (.slice none 0 0)), Z8 (-1), undef, Z8 i, .slice al n c, Z5 g0 0, .string x.1, Z8 (-1), Z8 (-1), ZY, undef, undef, undef, undef, undef, undef, undef, undef, Z8 i, .slice al n c, Z8 n, ZY, ZY, undef, undef, undef, undef, undef, undef, undef, undef, ZY, u36, u37, x38, (cond b1 (.slice al n c) undef), (cond b2 (Z8 i) undef), (cond b3 (.slice al i c) undef), x42, (cond b5 (.agg (ZA x)) undef), x44, x45, (cond b8 (.slice al n c) undef), (cond b9 (Z8 i) undef), (cond b10 (.slice (Zc 3 al c i) (n - i) (c - i)) undef), x49], defers := [] } ∧ CH V7 x (M.take i) (M.take i ++ [x]) (M.take i ++ [x] ++ M.drop i) b0 b4 b7 b11 b6 x38 x42 x45 x49 x44 V ∧ (b12 = true → b11 = true)) (by kernel_rfl) (by kernel_rfl) ?_ ?_ ?_
    ·exact ⟨_, _, _, _, _, _, _, _, _, _, _, _, _, _, _, _, _, _, rfl, rfl, h0, fun h => (by cases h)⟩
    ·intro i9 listed Zr V hi9 hr hJ
     obtain ⟨b0, b1, b2, b3, b4, b5, b6, b7, b8, b9, b10, b11, b12, x38, x42, x44, x45, x49, rfl, rfl, hF, hA⟩ := hJ
     have hi2 : i9 < 13 := hi9
     have hi3 : i9 = 0 ∨ i9 = 1 ∨ i9 = 2 ∨ i9 = 3 ∨ i9 = 4 ∨ i9 = 5 ∨ i9 = 6 ∨ i9 = 7 ∨ i9 = 8 ∨ i9 = 9 ∨ i9 = 10 ∨ i9 = 11 ∨ i9 = 12 := by omega
     rcases hi3 with rfl | rfl | rfl | rfl | rfl | rfl | rfl | rfl | rfl | rfl | rfl | rfl | rfl
     ·obtain rfl : b0 = false := ZX hr
      obtain rfl : b4 = false := by cases b4; rfl; exact absurd (hF.c1 rfl) (by decide)
      obtain rfl : b7 = false := by cases b7; rfl; exact absurd (hF.c2 rfl) (by decide)
      obtain rfl : b11 = false := by cases b11; rfl; exact absurd (hF.c3 rfl) (by decide)
      refine Xw rfl (by kernel_rfl) (some 38) rfl 22 0 #[] rfl #[] (by kernel_rfl) (.slice (some ⟨V.heap.size, 0, none⟩) 0 0) _ (Oc V) ?_
      exact ⟨_, _, _, _, _, _, _, _, _, _, _, _, _, _, _, _, _, _, rfl, rfl, hF.nil, hA⟩
     ·obtain rfl : b1 = false := ZX hr
      refine ZO rfl (by kernel_rfl) (some 39) rfl (.slice al n c) V (by kernel_rfl) ?_
      exact ⟨_, _, _, _, _, _, _, _, _, _, _, _, _, _, _, _, _, _, rfl, rfl, hF, hA⟩
     ·obtain rfl : b2 = false := ZX hr
      refine ZO rfl (by kernel_rfl) (some 40) rfl (Z8 i) V (by kernel_rfl) ?_
      exact ⟨_, _, _, _, _, _, _, _, _, _, _, _, _, _, _, _, _, _, rfl, rfl, hF, hA⟩
     ·obtain rfl : b3 = false := ZX hr
      obtain rfl : b1 = true := ZW hr 1
      obtain rfl : b2 = true := ZW hr 2
      refine RF rfl (by kernel_rfl) (some 41) rfl 22 (.tmp 39) (.tmp 40) rfl (.slice al n c) (Z8 (i : Int)) (.slice al i c) (by kernel_rfl) (by kernel_rfl) (Ph al n c i V (by omega)) ?_
      exact ⟨_, _, _, _, _, _, _, _, _, _, _, _, _, _, _, _, _, _, rfl, rfl, hF, hA⟩
     ·obtain rfl : b4 = false := ZX hr
      obtain rfl : b0 = true := ZW hr 0
      obtain rfl : b3 = true := ZW hr 3
      obtain rfl : b7 = false := by cases b7; rfl; exact absurd (hF.c2 rfl) (by decide)
      obtain rfl : b11 = false := by cases b11; rfl; exact absurd (hF.c3 rfl) (by decide)
      have hO := hF.r0 rfl rfl
      obtain ⟨v, V2, hap, hO2, hb2, hg2, VG⟩ := hO.app hF.bel.size al i c (M.take i) (by rw [← Wi]; exact (Gp.out.below hF.bel).take _) J4.out (by simp) (by omega)
      refine XK rfl (by kernel_rfl) (some 42) rfl 22 rfl (.tmp 38) (.tmp 41) 22 rfl x38 (.slice al i c) v V2 (by kernel_rfl) (by kernel_rfl) hap ?_
      exact ⟨true, b1, b2, true, true, b5, b6, false, b8, b9, b10, false, b12, x38, v, x44, x45, x49, rfl, rfl, hF.one (by rw [List.nil_append] at hO2; exact hO2) hb2 hg2 VG, hA⟩
     ·obtain rfl : b5 = false := ZX hr
      refine Y7 rfl (by kernel_rfl) (some 43) rfl 49 (.tmp 3) rfl ⟨g0, 0, none⟩ (.agg (ZA x)) (by kernel_rfl) (Zn (Wu.out.below Wu.out.lt hF.bel)) ?_
      exact ⟨_, _, _, _, _, _, _, _, _, _, _, _, _, _, _, _, _, _, rfl, rfl, hF, hA⟩
     ·obtain rfl : b6 = false := ZX hr
      obtain rfl : b5 = true := ZW hr 5
      refine Xw rfl (by kernel_rfl) (some 44) rfl 22 1 #[(0, .tmp 43)] rfl #[(0, .agg (ZA x))] (by kernel_rfl) (.slice (some ⟨V.heap.size, 0, none⟩) 1 1) _ (Wp x V) ?_
      exact ⟨_, _, _, _, _, _, _, _, _, _, _, _, _, _, _, _, _, _, rfl, rfl, hF.key, hA⟩
     ·obtain rfl : b7 = false := ZX hr
      obtain rfl : b4 = true := ZW hr 4
      obtain rfl : b6 = true := ZW hr 6
      obtain rfl : b11 = false := by cases b11; rfl; exact absurd (hF.c3 rfl) (by decide)
      have hO := hF.r1 rfl rfl
      obtain ⟨gq, rfl, hgx, -⟩ := hF.kx rfl
      have hgc : Cs V (some ⟨gq, 0, none⟩) (acc [x]) := Cs.block (cs := acl x) hgx
      obtain ⟨v, V2, hap, hO2, hb2, hg2, VG⟩ := hO.app hF.bel.size (some ⟨gq, 0, none⟩) 1 1 [x] hgc rfl (by rw [J4.out]; omega) (by omega)
      refine XK rfl (by kernel_rfl) (some 45) rfl 22 rfl (.tmp 42) (.tmp 44) 22 rfl x42 (.slice (some ⟨gq, 0, none⟩) 1 1) v V2 (by kernel_rfl) (by kernel_rfl) hap ?_
      exact ⟨b0, b1, b2, b3, true, b5, true, true, b8, b9, b10, false, b12, x38, x42, _, v, x49, rfl, rfl, hF.two hO2 hb2 hg2 VG, hA⟩
     ·obtain rfl : b8 = false := ZX hr
      refine ZO rfl (by kernel_rfl) (some 46) rfl (.slice al n c) V (by kernel_rfl) ?_
      exact ⟨_, _, _, _, _, _, _, _, _, _, _, _, _, _, _, _, _, _, rfl, rfl, hF, hA⟩
     ·obtain rfl : b9 = false := ZX hr
      refine ZO rfl (by kernel_rfl) (some 47) rfl (Z8 i) V (by kernel_rfl) ?_
      exact ⟨_, _, _, _, _, _, _, _, _, _, _, _, _, _, _, _, _, _, rfl, rfl, hF, hA⟩
     ·obtain rfl : b10 = false := ZX hr
      obtain rfl : b8 = true := ZW hr 8
      obtain rfl : b9 = true := ZW hr 9
      refine XA rfl (by kernel_rfl) (some 48) rfl 22 (.tmp 46) (.tmp 47) rfl (.slice al n c) (Z8 ((i : Nat) : Int)) (.slice (Zc 3 al c i) (n - i) (c - i)) (by kernel_rfl) (by kernel_rfl) (WE al n c (i) V (by omega)) ?_
      exact ⟨_, _, _, _, _, _, _, _, _, _, _, _, _, _, _, _, _, _, rfl, rfl, hF, hA⟩
     ·obtain rfl : b11 = false := ZX hr
      obtain rfl : b7 = true := ZW hr 7
      obtain rfl : b10 = true := ZW hr 10
      obtain rfl : b12 = false := by cases b12; rfl; exact absurd (hA rfl) (by decide)
      have hO := hF.r2 rfl rfl
      obtain ⟨v, V2, hap, hO2, hb2, hg2, VG⟩ := hO.app hF.bel.size (Zc 3 al c i) (n - i) (c - i) (M.drop i) (by rw [← U8]; exact (Gp.out.below hF.bel).from 3 c i (by rw [Yd, HN.out]; omega)) ah.out (by rw [List.length_append, J4.out]; simp; omega) (by omega)
      refine XK rfl (by kernel_rfl) (some 49) rfl 22 rfl (.tmp 45) (.tmp 48) 22 rfl x45 (.slice (Zc 3 al c i) (n - i) (c - i)) v V2 (by kernel_rfl) (by kernel_rfl) hap ?_
      exact ⟨b0, b1, b2, b3, b4, b5, b6, true, b8, b9, true, true, false, x38, x42, x44, x45, v, rfl, rfl, hF.three hO2 hb2 hg2 VG, fun h => (by cases h)⟩
     ·obtain rfl : b12 = false := ZX hr
      obtain rfl : b11 = true := ZW hr 11
      refine ZO rfl (by kernel_rfl) (some 4) rfl (x49) V (by kernel_rfl) ?_
      exact ⟨_, _, _, _, _, _, _, _, _, _, _, _, _, _, _, _, _, _, rfl, rfl, hF, fun _ => rfl⟩
    ·intro Zr V hJ
     obtain ⟨b0, b1, b2, b3, b4, b5, b6, b7, b8, b9, b10, b11, b12, x38, x42, x44, x45, x49, he, rfl, hF, hA⟩ := hJ
     have he : (#[true, true, true, true, true, true, true, true, true, true, true, true, true] : Array Bool) = #[b0, b1, b2, b3, b4, b5, b6, b7, b8, b9, b10, b11, b12] := he
     simp only [Array.mk.injEq, List.cons.injEq, and_true] at he
     obtain ⟨rfl, rfl, rfl, rfl, rfl, rfl, rfl, rfl, rfl, rfl, rfl, rfl, rfl⟩ := he
     simp only [cond_true]
     have hO := hF.r3 rfl
     have HE : Hid (ZB V w.heap.size x49 P ∧ Below w.heap.size w V) := Z9 ⟨by rw [aj.out]; exact own_base hO Sm.out.size, Sm.out.trans (hF.bel.mono Sm.out.size)⟩
     clear hF h0 hO Wu Gp
     go_wp2_with fail
     go_ret
     exact ⟨_, rfl, HE.out⟩
def Yx (w : World) (r : List Ac × Int × Int) (e : Ending) (w' : World) : Prop := ∃ ad k, e = .returned (.tuple #[.agg (ZU ad r.1.length k r.2.1), Z8 r.2.2]) ∧ ZB w' w.heap.size (.slice ad r.1.length k) r.1 ∧ Below w.heap.size w w'
theorem Yx.err {w V : World} {e : Int} (hb : Below w.heap.size w V) : Yx w ([], 0, e) (.returned (.tuple #[.agg (ZU none 0 0 0), Z8 e])) V := ⟨none, 0, rfl, TA _ _, hb⟩
theorem get_at {A : List Ac} {s : ByteArray} {i : Nat} (h : i < A.length) (hb : ∀ j, j < i → (aca A j).1 ≠ s) (hi : (aca A i).1 = s) : Zw A s = (aca A i, true) := by
 have e := Ed h hb hi
 unfold Zw
 rw [e, if_pos h]
theorem qQ {A : List Ac} {s : ByteArray} (hb : ∀ j, j < A.length → (aca A j).1 ≠ s) : Zw A s = (Xg, false) := by
 have e := Ec hb
 unfold Zw
 rw [e, if_neg (by omega)]
theorem Zi (w : World) (x y : Array Value) (t u : Nat) : Below w.heap.size w ((w.alloc (.cells x t)).alloc (.cells y u)) ∧ Bx ((w.alloc (.cells x t)).alloc (.cells y u)) w.heap.size x t ∧ Bx ((w.alloc (.cells x t)).alloc (.cells y u)) (w.heap.size + 1) y u := by
 have hb0 : Below w.heap.size w (w.alloc (.cells x t)) := (Below.refl _ w).alloc (Nat.le_refl _) _
 have hX0 : Bx (w.alloc (.cells x t)) w.heap.size x t := heap_alloc_last w _
 have hb1 : Below (w.alloc (.cells x t)).heap.size (w.alloc (.cells x t)) ((w.alloc (.cells x t)).alloc (.cells y u)) := (Below.refl _ _).alloc (Nat.le_refl _) _
 have Uk : Bx ((w.alloc (.cells x t)).alloc (.cells y u)) (w.alloc (.cells x t)).heap.size y u := heap_alloc_last _ _
 rw [show (w.alloc (.cells x t)).heap.size = w.heap.size + 1 by simp] at Uk
 exact ⟨hb0.trans (hb1.mono hb0.size), hX0.below hX0.lt hb1, Uk⟩
theorem uw (a : Option Addr) (k : Nat) (A : List Ac) (c : Int) (s : ByteArray) (w : World) (hR : Cs w a (acc A)) (hn : A.length ≤ 4398046511104) :
  Calls Try.prog 73 #[.agg (ZU a A.length k c), .string s] w fun e w' => e = .returned (.tuple #[.agg (ZA (Zw A s).1), .bool (Zw A s).2]) ∧ Below w.heap.size w w' := by
 obtain ⟨hb0, hX0, Uk⟩ := Zi w (ZU a A.length k c) (ZA Xg) 33 49
 have HA := Z9 (hR.below hb0)
 obtain ⟨r, hr⟩ := ZR (Zw A s)
 have uq : Hid (∀ i, i < A.length → (∀ j, j < i → (aca A j).1 ≠ s) → (aca A i).1 = s → r = (aca A i, true)) := Z9 fun i h1 h2 h3 => by rw [← hr]; exact get_at h1 h2 h3
 have HG2 : Hid ((∀ j, j < A.length → (aca A j).1 ≠ s) → r = (Xg, false)) := Z9 fun h => by rw [← hr]; exact qQ h
 obtain ⟨n, hnn⟩ := ZR A.length
 have HN := Z9 hnn
 have TI : Hid (n ≤ 4398046511104) := Z9 (by omega)
 rw [hnn] at hb0 hX0 Uk HA uq HG2
 rw [hnn, hr]
 obtain ⟨r1, r2⟩ := r
 simp only [Prod.mk.injEq] at uq HG2
 clear hR hn hr
 go_enter Try.func73, Try.ntmps73
 go_upto_region 1 with fail
 change Code.wp _ _ _ _ ((w.alloc (.cells (ZU a n k c) 33)).alloc (.cells (ZA Xg) 49))
 generalize (w.alloc (.cells (ZU a n k c) 33)).alloc (.cells (ZA Xg) 49) = W at *
 obtain ⟨g0, hg0⟩ := ZR w.heap.size
 obtain ⟨g1, hg1⟩ := ZR (w.heap.size + 1)
 have Rj : Hid (w.heap.size ≤ g1 ∧ g1 < W.heap.size) := Z9 ⟨by omega, by have := Uk.lt; omega⟩
 have HB0 := Z9 hb0
 rw [hg1] at Uk
 rw [hg0] at hX0
 simp only [hg0]
 rw [show g0 + 1 = g1 by omega]
 have HX := Z9 hX0
 have HZ := Z9 Uk
 clear hb0 hg0 hg1 hX0 Uk hnn
 refine wl <| ZV (Z5 g0 0) <| ZI rfl ⟨g0, 0, none⟩ (.slice a n k) (HX.out.ZN 0) <| ZG (Z8 n) (Z8 0) <| wn ?_
 simp only [pu]
 go_wp2_with fail
 go_loopg [11] n (fun gg s11 wx => ∃ j : Nat, s11 = Z8 j ∧ j ≤ n ∧ Hid (∀ t, t < j → (aca A t).1 ≠ s) ∧ Hid (Below W.heap.size W wx) ∧ n - j = gg)
 case atStart => exact ⟨0, rfl, by omega, Z9 (fun t h => by omega), Z9 (Below.refl _ _), by omega⟩
 case round =>
  obtain ⟨j, rfl, hj, HO, HB, hg⟩ := hrel
  have EO := TI.out
  by_cases hlt : j < n
  ·obtain ⟨b, off, rfl, -, hrx⟩ := YS (HA.out.below HB.out) (k := j) (by rw [HN.out]; exact hlt)
   have LW := Z9 (Ym hrx)
   have hf1 := uq.out j hlt HO.out
   generalize hy : aca A j = y at *
   have HY := Z9 hy
   have HG := Z9 hg
   obtain ⟨V2, hst, hb2, hbx⟩ := WW wr y
   have HB2 := Z9 (HB.out.trans (hb2.mono HB.out.size))
   have HZ2 := Z9 (HZ.out.below HZ.out.lt (HB.out.trans (hb2.mono HB.out.size)))
   clear hrx hy hg hb2
   go_upto_region 2 with fail
   refine wl <| ZM (ZC rfl (j) (n) dT) <| wn ?_
   simp only [pu]
   go_upto_region 3 with fail
   refine wl <| YO (Z5 b (off + j * 3)) (YR b off n k j hlt _ _ _ rfl (by kernel_rfl) (by kernel_rfl)) <| ZI rfl ⟨b, off + j * 3, none⟩ (.agg (ZA y)) (LW.out) ?_
   simp only [pu]
   refine Zz rfl (some 7) rfl (Z5 wr.heap.size 0) (wr.alloc (.cells (ZA Xg) 49)) (by kernel_rfl) ?_
   simp only [pu]
   refine Zt rfl (hst) <| wn ?_
   obtain ⟨g4, hg4⟩ := ZR wr.heap.size
   rw [hg4] at hbx ⊢
   clear hst hg4 LW
   by_cases E5 : y.1 = s
   ·go_upto_region 4 with fail
    refine wl <| ZV (Z5 g4 0) <| ZI rfl ⟨g4, 0, none⟩ (.string y.1) (hbx.ZN 0) <| ZV (.string s) <| YN Z4 (Ui rfl y.1 s (by rw [JE]; exact decide_eq_true E5)) <| wn ?_
    simp only [pu]
    obtain ⟨rfl, rfl⟩ := hf1 E5
    have y5 := Z9 hbx
    have Sm := Z9 (HB0.out.trans (HB2.out.mono HB0.out.size))
    clear HO HB hbx E5 uq HG2 HB2
    have hst := XV (y := r1) HZ2.out
    have Zj := Z9 (ZT Sm.out Rj.out.1 (ZA r1))
    have Y0 := Z9 (Zn hst.2)
    have hst1 := hst.1
    generalize World.setRow V2 g1 (ZA r1) = V9 at *
    clear hst
    go_upto_region 5 with fail
    refine wl <| ZI rfl ⟨g4, 0, none⟩ (.agg (ZA r1)) (Zn y5.out) <| Zt rfl (hst1) <| ZV Z4 <| wn ?_
    simp only [pu]
    clear hst1 y5 HZ2 HZ
    go_wp2_with fail
    exact bodyPost_ret (ZP (p := 4) (q := 5) rfl (by kernel_rfl) Y0.out rfl) rfl ⟨rfl, Zj.out⟩
   ·go_upto_region 4 with fail
    refine wl <| ZV (Z5 g4 0) <| ZI rfl ⟨g4, 0, none⟩ (.string y.1) (hbx.ZN 0) <| ZV (.string s) <| YN ZY (Ui rfl y.1 s (by rw [JE]; exact decide_eq_false E5)) <| wn ?_
    simp only [pu]
    clear hbx
    have Gq : Hid (∀ t, t < j + 1 → (aca A t).1 ≠ s) := Z9 fun t ht => (by rcases Nat.lt_or_ge t j with h7 | h7; exact HO.out t h7; have e7 : t = j := (by omega); rw [e7, HY.out]; exact E5)
    clear hf1 HO HB E5 HZ2
    go_upto_region 6 with fail
    refine wl <| YN (Z8 (j + 1 : Nat)) (ZK rfl j 1 (by omega)) <| ZV (Z8 (j + 1 : Nat)) <| wn ?_
    simp only [pu]
    go_wp2_with fail
    go_roundg (n - (j + 1))
    case measure => have := HG.out; omega
    case rel => exact ⟨j + 1, rfl, hlt, Gq, HB2, rfl⟩
  ·obtain rfl : n = j := by omega
   obtain ⟨rfl, rfl⟩ := HG2.out HO.out
   have HZ2 := Z9 (HZ.out.below HZ.out.lt HB.out)
   have Sm := Z9 (HB0.out.trans (HB.out.mono HB0.out.size))
   clear HO uq HG2 hg HB HZ
   go_upto_region 2 with fail
   refine wl <| ZM (ZC rfl (n) (n) dF) <| wn ?_
   simp only [pu]
   have hst := XV (y := Xg) HZ2.out
   have Zj := Z9 (ZT Sm.out Rj.out.1 (ZA Xg))
   have Y0 := Z9 (Zn hst.2)
   have hst1 := hst.1
   generalize World.setRow wr g1 (ZA Xg) = V9 at *
   clear hst
   go_upto_region 7 with fail
   refine wl <| ZV (.agg #[.string ⟨#[]⟩, Z7 0, Z7 0]) <| Zt rfl (hst1) <| ZV ZY <| wn ?_
   simp only [pu]
   clear hst1 HZ2
   go_wp2_with fail
   exact bodyPost_ret (ZP (p := 4) (q := 5) rfl (by kernel_rfl) Y0.out rfl) rfl ⟨rfl, Zj.out⟩
end Go.Proofs.Ytnhlpahoomcgnaa.Lg
