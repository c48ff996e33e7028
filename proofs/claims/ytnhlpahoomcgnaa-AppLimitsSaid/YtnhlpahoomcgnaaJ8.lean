/-
  Texts PD RT RR DE WD MK joined.
-/
import Derived.Test.YtnhlpahoomcgnaaJ7
import Derived.Test.YtnhlpahoomcgnaaJ1
set_option maxRecDepth 100000
set_option maxHeartbeats 8000000
set_option linter.unusedSimpArgs false
set_option linter.unusedVariables false
namespace Go.Proofs.Ytnhlpahoomcgnaa
attribute [local irreducible] wpList wpQuiet
open Go.RowKit
theorem But.more {g : Nat} {a b c : World} (h : But g a b) (hb : Below a.heap.size b c) (hg : g ≤ a.heap.size) : But g a c := ⟨h.1.trans (hb.mono hg), fun k hk hn => (hb.block k hk).trans (h.2 k hk hn)⟩
theorem MC (x : Tf) (V : World) : (Instr.buildSlice 55 1 #[(0, .agg (Yv x))]).run Try.prog V = .ok (.slice (some ⟨V.heap.size, 0, none⟩) 1 1) (V.alloc (.cells (Yv x) 54)) := by
 obtain ⟨i0, hi, hz0, hz1, hz2⟩ := info_parts tY
 refine run_buildSlice V 55 54 1 _ (Yv x) i0 _ Try.underlying55 hi hz0 (by rw [hz1]; omega) (by rw [hz1]; omega) ?_
 rw [hz1]
 kernel_rfl
def Yn (w : World) (B : Nat) (v : Value) (A : List Tf) : Prop := w.ownsRow B 54 2 v A.length (SE A)
theorem Yn.nil (w : World) (B : Nat) : Yn w B (.slice none 0 0) [] := World.ownsRow_nil _ _ _ _
theorem Yn.below {w w' : World} {B : Nat} {v : Value} {A : List Tf} (h : Yn w B v A) (hb : Below w.heap.size w w') : Yn w' B v A := own_below h hb
theorem Yn.base {w : World} {B B' : Nat} {v : Value} {A : List Tf} (h : Yn w B' v A) (hB : B ≤ B') : Yn w B v A := own_base h hB
theorem Yn.but {w w' : World} {B g : Nat} {v : Value} {A : List Tf} (h : Yn w B v A) (hb : But g w w') (hg : g < B) : Yn w' B v A := Zv h hb hg
theorem Yn.cs {w : World} {B : Nat} {v : Value} {A : List Tf} (h : Yn w B v A) : ∃ a c, v = .slice a A.length c ∧ Cs w a (SE A) ∧ A.length ≤ c := Yj h
theorem yt {w : World} {B : Nat} {v : Value} {A : List Tf} (h : Yn w B v A) (hB : B ≤ w.heap.size) (x : Tf) (hl : A.length ≤ 100000) :
  ∃ a c V2, (Builtin.append_ #[55, 55] 55 #[v, .slice (some ⟨w.heap.size, 0, none⟩) 1 1]).run Try.prog (w.alloc (.cells (Yv x) 54)) = .ok (.slice a (A ++ [x]).length c) V2 ∧ Yn V2 B (.slice a (A ++ [x]).length c) (A ++ [x]) ∧ Below B w V2 := by
 have hb : Below w.heap.size w (w.alloc (.cells (Yv x) 54)) := (Below.refl _ w).alloc (Nat.le_refl _) _
 have hO := own_below h hb
 have hc : Cs (w.alloc (.cells (Yv x) 54)) (some ⟨w.heap.size, 0, none⟩) (EU x) := Cs.block (t := 54) (fr := (0, 0)) (heap_alloc_last w _)
 obtain ⟨v2, V2, hr, hO2, hb2, -⟩ := Si (P := Try.prog) (t := 55) (m := 1) Try.underlying55 tY (by kernel_rfl) (by omega) (by omega) hO (some ⟨w.heap.size, 0, none⟩) 1 (EU x) hc rfl (fun u hu => by
  simp only [EU, List.mem_cons, List.not_mem_nil, or_false] at hu
  rcases hu with rfl | rfl <;> rfl) (by simp; omega) hl (by omega)
 have e : SE (A ++ [x]) = SE A ++ EU x := by rw [yj]; simp [SE]
 have hO3 : Yn V2 B v2 (A ++ [x]) := by unfold Yn; rw [e, List.length_append]; exact hO2
 obtain ⟨a, c, rfl, -, -⟩ := hO3.cs
 exact ⟨a, c, V2, hr, hO3, (hb.mono hB).trans hb2⟩
theorem Hy (k : Int) (l : List Zp) : (Yw k l).2.length ≤ l.length := by
 cases l with
 | nil => exact Nat.le_refl _
 | cons f r =>
  by_cases h : f.num = k ∧ f.kind = 2 ∧ f.bytes.length ≠ 0
  ·rw [Td h]; simp
  ·rw [UJ h]; exact Nat.le_refl _
theorem NT (k : Int) (l : List Zp) : (YM k l).2.length ≤ l.length := by
 cases l with
 | nil => exact Nat.le_refl _
 | cons f r =>
  by_cases h : f.num = k ∧ f.kind = 0 ∧ f.val ≠ 0
  ·rw [U6 h]; simp
  ·rw [VD h]; exact Nat.le_refl _
def MP (L : List Int) : Option Zf := if (YD L).2.2 ≠ 0 then none else yh (YD L).1
def RdO (w : World) (r : Option Zf) (e : Ending) (w' : World) : Prop := ∃ t ok a c, e = .returned (.tuple #[.agg (Zu t a c), .bool ok]) ∧ r = (if ok = true then some t else none) ∧ Yn w' w.heap.size (.slice a t.tr.length c) t.tr ∧ Below w.heap.size w w'
def Jw (P : List Zp) (j : Nat) (A : List Tf) : Prop := Ur P = (Ur (P.drop j)).map (A ++ ·)
theorem Jw.zero (P : List Zp) : Jw P 0 [] := by
 unfold Jw
 rw [List.drop_zero]
 cases Ur P <;> simp
theorem Jw.step {P : List Zp} {j : Nat} {A : List Tf} (h : Jw P j A) (hj : j < P.length) {x : Tf} (hx : VB P[j] = some x) : Jw P (j + 1) (A ++ [x]) := by
 unfold Jw at *
 rw [h, List.drop_eq_getElem_cons hj, Ur, hx]
 cases Ur (P.drop (j + 1)) <;> simp
theorem Jw.fail {P : List Zp} {j : Nat} {A : List Tf} (h : Jw P j A) (hj : j < P.length) (hx : VB P[j] = none) : Ur P = none := by
 unfold Jw at *
 rw [h, List.drop_eq_getElem_cons hj, Ur, hx]
 rfl
theorem Jw.done {P : List Zp} {j : Nat} {A : List Tf} (h : Jw P j A) (hj : P.length ≤ j) : Ur P = some A := by
 unfold Jw at *
 rw [h, List.drop_eq_nil_of_le hj, Ur]
 simp
theorem YC {w : World} {g : Nat} {x y : Zf} {a a' : Option Addr} {c c' : Nat} (h : Bx w g (Zu x a c) 57) : (Instr.storeAt 57 (Z5 g 0) (.agg (Zu y a' c'))).run Try.prog w = .ok () (w.setRow g (Zu y a' c')) ∧ Bx (w.setRow g (Zu y a' c')) g (Zu y a' c') 57 :=
 ⟨YW h rfl (by simp [Value.oneCell']) (by kernel_rfl), h.set⟩
theorem Hz {w : World} {B g : Nat} {v : Value} {A : List Tf} (h : Yn w B v A) (cs : Array Value) (hg : g < B) : Yn (w.setRow g cs) B v A := h.but (But.setRow w cs) hg
theorem qx (a : Option Addr) (c : Nat) (L : List Int) (w : World) (hs : Sl w a c L) (hc : L.length ≤ c) (hl : L.length ≤ 100000) (h8 : ∀ y, y ∈ L → W8 y) :
  Calls Try.prog 69 #[.slice a L.length c] w (RdO w (MP L)) := by
 have hb0 : Below w.heap.size w (w.alloc (.cells (Zu zX none 0) 57)) := (Below.refl _ w).alloc (Nat.le_refl _) _
 have hX0 : Bx (w.alloc (.cells (Zu zX none 0) 57)) w.heap.size (Zu zX none 0) 57 := heap_alloc_last w _
 have CF := Rz a c L (w.alloc (.cells (Zu zX none 0) 57)) (by omega) (ZH hs hb0) h8 hc
 have tX : Hid ((YD L).2.2 = 0 → (∀ f, f ∈ (YD L).1 → Vf f) ∧ 2 * (YD L).1.length ≤ 100000) := Z9 fun h => by
  rcases Tj (fun y hy => h8 y hy) (by omega) with ⟨-, q⟩ | ⟨P, e, hm, hP⟩
  ·exact absurd h q
  ·rw [e]; exact ⟨hP, by have := qw P; rw [hm] at this; simp only; omega⟩
 have HR1 : Hid ((YD L).2.2 ≠ 0 → MP L = none) := Z9 fun h => by unfold MP; rw [if_pos h]
 have HR2 : Hid ((YD L).2.2 = 0 → MP L = yh (YD L).1) := Z9 fun h => by unfold MP; rw [if_neg (by rw [h]; decide)]
 have Jv : Hid (∀ V, Below w.heap.size w V → MP L = none → RdO w (MP L) (.returned (.tuple #[.agg (Zu zX none 0), ZY])) V) := Z9 fun V hb e => ⟨zX, false, none, 0, rfl, by rw [e]; rfl, Yn.nil _ _, hb⟩
 have DC : Hid (∀ V t a2 c2, Below w.heap.size w V → MP L = some t → Yn V w.heap.size (.slice a2 t.tr.length c2) t.tr → RdO w (MP L) (.returned (.tuple #[.agg (Zu t a2 c2), Z4])) V) := Z9 fun V t a2 c2 hb e hr => ⟨t, true, a2, c2, rfl, by rw [e]; rfl, hr, hb⟩
 generalize MP L = RR at *
 generalize YD L = FR at *
 go_enter Try.func69, Try.ntmps69
 go_upto_region 1 with fail
 change Code.wp _ _ _ _ (w.alloc (.cells (Zu zX none 0) 57))
 generalize w.alloc (.cells (Zu zX none 0) 57) = W at *
 obtain ⟨g2, hg2⟩ := ZR w.heap.size
 have HB0 := Z9 hb0
 have HG2 : Hid (w.heap.size ≤ g2) := Z9 (by omega)
 rw [hg2] at hX0
 rw [hg2]
 have QX : Hid (g2 < W.heap.size) := Z9 hX0.lt
 clear hb0 hg2 hs
 refine wl <| ZV (.slice a L.length c) <|
  Yl (fun v w' => ∃ a c ps, v = .tuple #[.slice a ps.length c, Z8 FR.2.1, Z8 FR.2.2] ∧ ps.map Prod.fst = FR.1 ∧ ps.length ≤ c ∧ Ri w' W.heap.size a ps ∧ Wx w' W.heap.size (.slice a ps.length c) ps ∧ Below W.heap.size W w') (CF.mono fun e w' q => by obtain ⟨v, ps, h1, h2, h3, h4⟩ := q; obtain ⟨a, c, rfl, hc, hf⟩ := h3.fsb; exact ⟨_, h1, a, c, ps, rfl, h2, hc, hf, h3, h4⟩) (fun v5 V5 hq => ?_)
 obtain ⟨a5, c5, ps, rfl, hps, hc5, jq, hR5, hb5⟩ := hq
 simp only [pu]
 refine YX (.tuple #[.slice a5 ps.length c5, Z8 FR.2.1, Z8 FR.2.2]) (.slice a5 ps.length c5) (Z8 FR.2.1) (Z8 FR.2.2) (.slice a5 ps.length c5) (Z8 FR.2.1) <| ZV (Z8 FR.2.2) <| wn ?_
 simp only [pu]
 have MR := hX0.below hX0.lt hb5
 have Pv := Z9 (HB0.out.trans (hb5.mono HB0.out.size))
 have HW5 : Hid (W.heap.size ≤ V5.heap.size) := Z9 hb5.size
 obtain ⟨P, n5, e5⟩ := FR
 dsimp only at *
 clear hb5 hX0 HB0 CF hR5
 go_upto_region 2 with fail
 by_cases he : e5 = 0
 ·have hvf := (tX.out he).1
  have hlen := (tX.out he).2
  have HRR := Z9 (HR2.out he)
  rw [← hps] at hvf hlen HRR
  have MQ : Hid (2 * ps.length ≤ 100000) := Z9 (by rw [List.length_map] at hlen; exact hlen)
  clear tX hps hlen HR1 HR2
  refine wl <| ZV (Z8 e5) <| ZM (YZ rfl e5 0 (decide_eq_true he)) <| wn ?_
  simp only [pu]
  unfold yh at HRR
  have HW := HW5
  have CT := TY a5 c5 ps W.heap.size 1 V5 jq hc5 hvf
  have hv2 := Vz (k := 1) hvf
  have htl := Hy 1 (ps.map Prod.fst)
  generalize Yw 1 (ps.map Prod.fst) = TT at *
  obtain ⟨s1, R1⟩ := TT
  dsimp only at *
  clear hvf
  go_upto_region 4 with fail
  refine wl <| ZV (.slice a5 ps.length c5) <|
   Yl (fun v w' => ∃ a c qs, v = .tuple #[.string s1, .slice a qs.length c] ∧ Ri w' W.heap.size a qs ∧ qs.length ≤ c ∧ qs.map Prod.fst = R1 ∧ Below V5.heap.size V5 w') (CT.mono fun e w' q => by obtain ⟨a, c, qs, h1, h2⟩ := q; exact ⟨_, h1, a, c, qs, rfl, h2⟩) (fun v6 U0 hq => ?_)
  obtain ⟨jo, jm, q0, rfl, Lp, hcq0, hq1, hb6⟩ := hq
  have PW := MR.below MR.lt hb6
  have Xp := Z9 (Pv.out.trans (hb6.mono Pv.out.size))
  obtain ⟨W0, Xy, qp, O7, YF⟩ := Zb (i := 0) (ty := 9) (v := .string s1) (cs' := Zu (⟨s1, 0, 0, 0, Vr, []⟩ : Zf) none 0) PW Xp.out HG2.out (by show 0 < 6; decide) rfl (by kernel_rfl) rfl
  have jl := Lp.but YF QX.out
  have qo := Z9 O7
  have aa5 : Hid (W.heap.size ≤ W0.heap.size) := Z9 (Nat.le_trans (Nat.le_trans HW.out hb6.size) YF.1.size)
  simp only [pu]
  refine Xl (.tuple #[.string s1, .slice jo q0.length jm]) (.string s1) (.slice jo q0.length jm) (Z5 g2 0) <| Zt rfl (Xy) <| ZV (.slice jo q0.length jm) <| wn ?_
  simp only [pu]
  rw [← hq1] at hv2 HRR
  have hvf := hv2
  rw [← hq1, List.length_map, List.length_map] at htl
  have Tc : Hid (2 * q0.length ≤ 100000) := Z9 (by have := MQ.out; omega)
  clear MQ htl
  have MQ := Tc
  clear Tc
  clear CT hv2 Xy hb6 PW Xp O7 YF Lp hq1 MR Pv jq hc5 HW
  have HW := aa5
  have CT := Xa jo jm q0 W.heap.size 2 W0 jl hcq0 hvf
  have hv2 := UH (k := 2) hvf
  have htl := NT 2 (q0.map Prod.fst)
  generalize YM 2 (q0.map Prod.fst) = TT at *
  obtain ⟨m2, R1⟩ := TT
  dsimp only at *
  clear hvf
  go_upto_region 5 with fail
  refine wl <| ZV (.slice jo q0.length jm) <|
   Yl (fun v w' => ∃ a c qs, v = .tuple #[Z7 m2, .slice a qs.length c] ∧ Ri w' W.heap.size a qs ∧ qs.length ≤ c ∧ qs.map Prod.fst = R1 ∧ Below W0.heap.size W0 w') (CT.mono fun e w' q => by obtain ⟨a, c, qs, h1, h2⟩ := q; exact ⟨_, h1, a, c, qs, rfl, h2⟩) (fun v6 U1 hq => ?_)
  obtain ⟨jk, ji, q1, rfl, Lp, hcq1, hq1, hb6⟩ := hq
  have PW := qp.below qp.lt hb6
  have Xp := Z9 (qo.out.trans (hb6.mono qo.out.size))
  obtain ⟨W1, Xy, qm, O7, YF⟩ := Zb (i := 1) (ty := 23) (v := Z7 m2) (cs' := Zu (⟨s1, m2, 0, 0, Vr, []⟩ : Zf) none 0) PW Xp.out HG2.out (by show 1 < 6; decide) rfl (by kernel_rfl) rfl
  have jh := Lp.but YF QX.out
  have ql := Z9 O7
  have aa6 : Hid (W.heap.size ≤ W1.heap.size) := Z9 (Nat.le_trans (Nat.le_trans HW.out hb6.size) YF.1.size)
  simp only [pu]
  refine Xl (.tuple #[Z7 m2, .slice jk q1.length ji]) (Z7 m2) (.slice jk q1.length ji) (Z5 g2 1) <| Zt rfl (Xy) <| ZV (.slice jk q1.length ji) <| wn ?_
  simp only [pu]
  rw [← hq1] at hv2 HRR
  have hvf := hv2
  rw [← hq1, List.length_map, List.length_map] at htl
  have Tc : Hid (2 * q1.length ≤ 100000) := Z9 (by have := MQ.out; omega)
  clear MQ htl
  have MQ := Tc
  clear Tc
  clear CT hv2 Xy hb6 PW Xp O7 YF Lp hq1 qp qo jl hcq0 HW
  have HW := aa6
  have CT := Xa jk ji q1 W.heap.size 3 W1 jh hcq1 hvf
  have hv2 := UH (k := 3) hvf
  have htl := NT 3 (q1.map Prod.fst)
  generalize YM 3 (q1.map Prod.fst) = TT at *
  obtain ⟨m3, R1⟩ := TT
  dsimp only at *
  clear hvf
  go_upto_region 6 with fail
  refine wl <| ZV (.slice jk q1.length ji) <|
   Yl (fun v w' => ∃ a c qs, v = .tuple #[Z7 m3, .slice a qs.length c] ∧ Ri w' W.heap.size a qs ∧ qs.length ≤ c ∧ qs.map Prod.fst = R1 ∧ Below W1.heap.size W1 w') (CT.mono fun e w' q => by obtain ⟨a, c, qs, h1, h2⟩ := q; exact ⟨_, h1, a, c, qs, rfl, h2⟩) (fun v6 U2 hq => ?_)
  obtain ⟨jg, jf, q2, rfl, Lp, je, hq1, hb6⟩ := hq
  have PW := qm.below qm.lt hb6
  have Xp := Z9 (ql.out.trans (hb6.mono ql.out.size))
  obtain ⟨W2, Xy, qj, O7, YF⟩ := Zb (i := 2) (ty := 23) (v := Z7 m3) (cs' := Zu (⟨s1, m2, m3, 0, Vr, []⟩ : Zf) none 0) PW Xp.out HG2.out (by show 2 < 6; decide) rfl (by kernel_rfl) rfl
  have jd := Lp.but YF QX.out
  have qh := Z9 O7
  have aa7 : Hid (W.heap.size ≤ W2.heap.size) := Z9 (Nat.le_trans (Nat.le_trans HW.out hb6.size) YF.1.size)
  simp only [pu]
  refine Xl (.tuple #[Z7 m3, .slice jg q2.length jf]) (Z7 m3) (.slice jg q2.length jf) (Z5 g2 2) <| Zt rfl (Xy) <| ZV (.slice jg q2.length jf) <| wn ?_
  simp only [pu]
  rw [← hq1] at hv2 HRR
  have hvf := hv2
  rw [← hq1, List.length_map, List.length_map] at htl
  have Tc : Hid (2 * q2.length ≤ 100000) := Z9 (by have := MQ.out; omega)
  clear MQ htl
  have MQ := Tc
  clear Tc
  clear CT hv2 Xy hb6 PW Xp O7 YF Lp hq1 qm ql jh hcq1 HW
  have HW := aa7
  have CT := Xa jg jf q2 W.heap.size 4 W2 jd je hvf
  have hv2 := UH (k := 4) hvf
  have htl := NT 4 (q2.map Prod.fst)
  generalize YM 4 (q2.map Prod.fst) = TT at *
  obtain ⟨m4, R1⟩ := TT
  dsimp only at *
  clear hvf
  go_upto_region 7 with fail
  refine wl <| ZV (.slice jg q2.length jf) <|
   Yl (fun v w' => ∃ a c qs, v = .tuple #[Z7 m4, .slice a qs.length c] ∧ Ri w' W.heap.size a qs ∧ qs.length ≤ c ∧ qs.map Prod.fst = R1 ∧ Below W2.heap.size W2 w') (CT.mono fun e w' q => by obtain ⟨a, c, qs, h1, h2⟩ := q; exact ⟨_, h1, a, c, qs, rfl, h2⟩) (fun v6 U3 hq => ?_)
  obtain ⟨jc, iZ, q3, rfl, Lp, iY, hq1, hb6⟩ := hq
  have PW := qj.below qj.lt hb6
  have Xp := Z9 (qh.out.trans (hb6.mono qh.out.size))
  obtain ⟨W3, Xy, qg, O7, YF⟩ := Zb (i := 3) (ty := 23) (v := Z7 m4) (cs' := Zu (⟨s1, m2, m3, m4, Vr, []⟩ : Zf) none 0) PW Xp.out HG2.out (by show 3 < 6; decide) rfl (by kernel_rfl) rfl
  have iW := Lp.but YF QX.out
  have qc := Z9 O7
  have aa8 : Hid (W.heap.size ≤ W3.heap.size) := Z9 (Nat.le_trans (Nat.le_trans HW.out hb6.size) YF.1.size)
  simp only [pu]
  refine Xl (.tuple #[Z7 m4, .slice jc q3.length iZ]) (Z7 m4) (.slice jc q3.length iZ) (Z5 g2 3) <| Zt rfl (Xy) <| ZV (.slice jc q3.length iZ) <| wn ?_
  simp only [pu]
  rw [← hq1] at hv2 HRR
  have hvf := hv2
  rw [← hq1, List.length_map, List.length_map] at htl
  have Tc : Hid (2 * q3.length ≤ 100000) := Z9 (by have := MQ.out; omega)
  clear MQ htl
  have MQ := Tc
  clear Tc
  clear CT hv2 Xy hb6 PW Xp O7 YF Lp hq1 qj qh jd je HW
  have HW := aa8
  have CT := TY jc iZ q3 W.heap.size 5 W3 iW iY hvf
  have hv2 := Vz (k := 5) hvf
  have htl := Hy 5 (q3.map Prod.fst)
  generalize Yw 5 (q3.map Prod.fst) = TT at *
  obtain ⟨s5, R1⟩ := TT
  dsimp only at *
  clear hvf
  go_upto_region 8 with fail
  refine wl <| ZV (.slice jc q3.length iZ) <|
   Yl (fun v w' => ∃ a c qs, v = .tuple #[.string s5, .slice a qs.length c] ∧ Ri w' W.heap.size a qs ∧ qs.length ≤ c ∧ qs.map Prod.fst = R1 ∧ Below W3.heap.size W3 w') (CT.mono fun e w' q => by obtain ⟨a, c, qs, h1, h2⟩ := q; exact ⟨_, h1, a, c, qs, rfl, h2⟩) (fun v6 U4 hq => ?_)
  obtain ⟨cZ, iV, q4, rfl, Lp, pY, hq1, hb6⟩ := hq
  have PW := qg.below qg.lt hb6
  have Xp := Z9 (qc.out.trans (hb6.mono qc.out.size))
  obtain ⟨W4, Xy, pX, O7, YF⟩ := Zb (i := 4) (ty := 9) (v := .string s5) (cs' := Zu (⟨s1, m2, m3, m4, s5, []⟩ : Zf) none 0) PW Xp.out HG2.out (by show 4 < 6; decide) rfl (by kernel_rfl) rfl
  have pW := Lp.but YF QX.out
  have iU := Z9 O7
  have aa9 : Hid (W.heap.size ≤ W4.heap.size) := Z9 (Nat.le_trans (Nat.le_trans HW.out hb6.size) YF.1.size)
  simp only [pu]
  refine Xl (.tuple #[.string s5, .slice cZ q4.length iV]) (.string s5) (.slice cZ q4.length iV) (Z5 g2 4) <| Zt rfl (Xy) <| ZV (.slice cZ q4.length iV) <| wn ?_
  simp only [pu]
  rw [← hq1] at hv2 HRR
  have hvf := hv2
  rw [← hq1, List.length_map, List.length_map] at htl
  have Tc : Hid (2 * q4.length ≤ 100000) := Z9 (by have := MQ.out; omega)
  clear MQ htl
  have MQ := Tc
  clear Tc
  clear CT hv2 Xy hb6 PW Xp O7 YF Lp hq1 qg qc iW iY HW
  have HW := aa9
  go_upto_region 9 with fail
  refine wl <| YT (.slice cZ q4.length iV) (Z8 q4.length) (Z8 0) <| wn ?_
  simp only [pu]
  obtain ⟨n, hn⟩ := ZR q4.length
  have HN := Z9 hn
  have HF := Z9 pW
  have HCQ := Z9 pY
  have cO := Z9 hvf
  have iT := Z9 (Jw.zero (q4.map Prod.fst))
  have YK := Z9 pX
  have TI : Hid (n ≤ 100000) := Z9 (by have := MQ.out; omega)
  have HBC := Z9 pW.cap
  have FZ : Hid (g2 < W4.heap.size) := Z9 pX.lt
  rw [hn] at pY ⊢
  clear pW pY hvf pX hn HW
  go_wp2_with fail
  go_loopg [52] n (fun gg s52 wx => ∃ (j : Nat) (A : List Tf) (a6 : Option Addr) (c6 : Nat), s52 = Z8 j ∧ j ≤ n ∧ Hid (A.length = j) ∧ Hid (Bx wx g2 (Zu ⟨s1, m2, m3, m4, s5, A⟩ a6 c6) 57) ∧ Hid (Yn wx W4.heap.size (.slice a6 A.length c6) A) ∧ Hid (Jw (q4.map Prod.fst) j A) ∧ Hid (But g2 W4 wx) ∧ n - j = gg)
  case atStart => exact ⟨0, [], none, 0, rfl, by omega, Z9 rfl, YK, Z9 (Yn.nil _ _), iT, Z9 (But.refl _ _), by omega⟩
  case round =>
   obtain ⟨j, A, a6, c6, rfl, hj, HAL, y5, cu, iR, EW, hg⟩ := hrel
   clear YK iT
   by_cases hlt : j < n
   ·have HG : Hid (n - (j + 1) = gk - 1 ∧ 0 < gk ∧ j + 1 ≤ n ∧ j + 1 ≤ 100000) := Z9 ⟨by omega, by omega, by omega, by have := TI.out; omega⟩
    have hjq : j < q4.length := by rw [HN.out]; exact hlt
    have hFr := HF.out.but EW.out QX.out
    obtain ⟨b, off, ba, bc, rfl, hp2, hsl, hbox⟩ := hFr.fs j q4[j] (List.getElem?_eq_getElem hjq)
    have yu := cO.out q4[j].1 (by exact List.mem_map_of_mem (List.getElem_mem hjq))
    have hjm : j < (q4.map Prod.fst).length := by rw [List.length_map]; exact hjq
    have hgx : (q4.map Prod.fst)[j] = q4[j].1 := List.getElem_map ..
    have HST := Z9 (fun x (hx : VB q4[j].1 = some x) => iR.out.step hjm (by rw [hgx]; exact hx))
    have zK := Z9 (fun (hx : VB q4[j].1 = none) => iR.out.fail hjm (by rw [hgx]; exact hx))
    have hba : q4[j].1.bytes.length ≤ bc := HBC.out q4[j] (List.getElem_mem hjq) ba q4[j].1.bytes.length bc hp2
    generalize q4[j].1 = x at *
    have hld := S9 (SY hbox)
    obtain ⟨V6, hst, hb6, hbx⟩ := Dz wr x ba bc
    have CR := Qz x ba bc V6 (ZH hsl hb6) hba yu.2.2.2 yu.2.2.1 (by rcases yu.1.2.2 with q | q; exact .inl q.1; exact .inr q.1)
    have Xp := Z9 hb6
    clear hFr hp2 hsl hbox yu hjm hgx hba iR hb6 hg hjq
    generalize VB x = rx at *
    go_upto_region 10 with fail
    refine wl <| ZM (ZC rfl (j) (n) dT) <| wn ?_
    simp only [pu]
    go_upto_region 11 with fail
    refine wl <| YO (Z5 b (off + j * 4)) (Yi b off n iV j hlt _ _ _ rfl (by kernel_rfl) (by kernel_rfl)) <| ZI rfl ⟨b, off + j * 4, none⟩ (.agg (Yh x ba bc)) (hld) ?_
    simp only [pu]
    refine Zz rfl (some 8) rfl (Z5 wr.heap.size 0) (wr.alloc (.cells (Yh Xj none 0) 99)) (by kernel_rfl) ?_
    simp only [pu]
    refine Zt rfl (hst) <| wn ?_
    obtain ⟨g8, J3⟩ := ZR wr.heap.size
    rw [J3] at hbx ⊢
    clear hst J3 hld
    go_upto_region 12 with fail
    refine wl <| ZI rfl ⟨g8, 0, none⟩ (.agg (Yh x ba bc)) (SV hbx) <|
     Yl (fun v w' => ∃ y ok, v = .tuple #[.agg (Yv y), .bool ok] ∧ rx = (if ok = true then some y else none) ∧ Below V6.heap.size V6 w') (CR.mono fun e w' q => by obtain ⟨y, ok, h1, h2⟩ := q; exact ⟨_, h1, y, ok, rfl, h2⟩) (fun v7 V7 hq => ?_)
    obtain ⟨y, ok, rfl, hok, hb7⟩ := hq
    obtain ⟨V8, Vd, hb8, PV⟩ := RX V7 y
    simp only [pu]
    refine YT (.tuple #[.agg (Yv y), .bool ok]) (.agg (Yv y)) (.bool ok) ?_
    simp only [pu]
    refine Zz rfl (some 9) rfl (Z5 V7.heap.size 0) (V7.alloc (.cells (Yv TK) 54)) (by kernel_rfl) ?_
    simp only [pu]
    refine Zt rfl (Vd) <| ZV (.bool ok) <| wn ?_
    simp only [pu]
    obtain ⟨g9, uN⟩ := ZR V7.heap.size
    have yg := (Xp.out.trans (hb7.mono Xp.out.size)).trans (hb8.mono (Nat.le_trans Xp.out.size hb7.size))
    have RD := y5.out.below y5.out.lt yg
    have iQ := Z9 (cu.out.below yg)
    have LC := Z9 (EW.out.more (yg.mono EW.out.1.size) (Nat.le_of_lt FZ.out))
    rw [uN] at PV ⊢
    clear Vd uN hb7 hb8 yg hbx CR Xp y5 cu EW
    go_upto_region 13 with fail
    cases ok
    ·refine wl <| ZG ZY Z4 <| wn ?_
     simp only [pu]
     have pV : Hid (RR = none) := Z9 (by rw [HRR.out, zK.out hok]; rfl)
     have yc := Z9 (iU.out.trans (LC.out.1.mono (Nat.le_trans HG2.out (Nat.le_refl _))))
     obtain ⟨hst, hZ⟩ := YC (y := zX) (a' := none) (c' := 0) RD
     have Zj := Z9 (ZT yc.out HG2.out (Zu zX none 0))
     have HE := Z9 (Jv.out _ Zj.out (pV.out))
     generalize World.setRow _ g2 (Zu zX none 0) = V9 at *
     clear Jv DC HRR HST zK hok pV
     go_upto_region 14 with fail
     refine wl <| ZV (.agg #[.string ⟨#[]⟩, Z7 0, Z7 0, Z7 0, .string ⟨#[]⟩, .slice none 0 0]) <| Zt rfl (hst) <| ZV ZY <| wn ?_
     simp only [pu]
     go_wp2_with fail
     exact bodyPost_ret (ZP (p := 2) (q := 3) rfl (by kernel_rfl) (Za hZ) rfl) rfl HE.out
    ·refine wl <| ZG Z4 ZY <| wn ?_
     simp only [pu]
     have ab1 := Z9 (HST.out y hok)
     obtain ⟨a7, c7, V9, hap, TL, WJ⟩ := yt iQ.out LC.out.1.size y (by have := HAL.out; have := HG.out; omega)
     have Vl : Bx V9 g2 (Zu ⟨s1, m2, m3, m4, s5, A⟩ a6 c6) 57 := RD.below FZ.out WJ
     obtain ⟨V10, tV, iP, -, Ju⟩ := Zb (i := 5) (ty := 55) (v := .slice a7 (A ++ [y]).length c7) (cs' := Zu ⟨s1, m2, m3, m4, s5, A ++ [y]⟩ a7 c7) (w0 := V9) (B := g2) Vl (Below.refl _ _) (Nat.le_refl _) (by show 5 < 6; decide) rfl (by kernel_rfl) rfl
     have PI := Z9 iP
     have ab2 := Z9 (TL.but Ju FZ.out)
     have iO := Z9 ((LC.out.more WJ (Nat.le_of_lt FZ.out)).trans Ju)
     have ab3 : Hid ((A ++ [y]).length = j + 1) := Z9 (by rw [List.length_append, HAL.out]; rfl)
     clear HST zK hok iQ LC TL WJ Vl iP Ju
     go_upto_region 15 with fail
     refine wl <| ZV (Z5 g2 5) <| ZI rfl ⟨g2, 5, none⟩ (.slice a6 A.length c6) (RD.ZN 5) <| ZI rfl ⟨g9, 0, none⟩ (.agg (Yv y)) (WT PV) ?_
     simp only [pu]
     refine Zh (by kernel_rfl) (some 67) rfl 55 1 #[(0, .tmp 66)] rfl #[(0, .agg (Yv y))] (by kernel_rfl) (.slice (some ⟨V8.heap.size, 0, none⟩) 1 1) _ (MC y V8) ?_
     simp only [pu]
     refine Y4 rfl (some 68) rfl 55 rfl (.tmp 65) (.tmp 67) 55 rfl (.slice a6 A.length c6) (.slice (some ⟨V8.heap.size, 0, none⟩) 1 1) (.slice a7 (A ++ [y]).length c7) V9 (by kernel_rfl) (by kernel_rfl) hap ?_
     simp only [pu]
     refine ZV (Z5 g2 5) <| Zt rfl (tV) <| wn ?_
     simp only [pu]
     clear hap tV RD PV
     go_upto_region 16 with fail
     refine wl <| YO (Z8 (j + 1 : Nat)) (add_one rfl j (by have := HG.out; omega) (by kernel_rfl) _) <| ZV (Z8 (j + 1 : Nat)) <| wn ?_
     simp only [pu]
     go_wp2_with fail
     go_roundg (gk - 1)
     case measure => have := HG.out; omega
     case rel => exact ⟨j + 1, A ++ [y], a7, c7, rfl, HG.out.2.2.1, ab3, PI, ab2, ab1, iO, HG.out.1⟩
   ·have yG : Hid (RR = some ⟨s1, m2, m3, m4, s5, A⟩) := Z9 (by rw [HRR.out, iR.out.done (by rw [List.length_map, HN.out]; omega)]; rfl)
    obtain ⟨hst, hZ⟩ := YC (y := ⟨s1, m2, m3, m4, s5, A⟩) (a' := a6) (c' := c6) y5.out
    have Y0 := Z9 (Za y5.out)
    have yc := Z9 (iU.out.trans (EW.out.1.mono HG2.out))
    have Zj := Z9 (ZT yc.out HG2.out (Zu ⟨s1, m2, m3, m4, s5, A⟩ a6 c6))
    have HRW := Z9 ((Hz (g := g2) cu.out (Zu ⟨s1, m2, m3, m4, s5, A⟩ a6 c6) FZ.out).base (B := w.heap.size) (Nat.le_trans HG2.out (Nat.le_of_lt FZ.out)))
    have HE := Z9 (DC.out _ _ a6 c6 Zj.out yG.out HRW.out)
    generalize World.setRow _ g2 (Zu ⟨s1, m2, m3, m4, s5, A⟩ a6 c6) = V9 at *
    clear Jv DC HRR iR yG yc Zj HRW y5 cu EW hg
    go_upto_region 10 with fail
    refine wl <| ZM (ZC rfl (j) (n) dF) <| wn ?_
    simp only [pu]
    go_upto_region 17 with fail
    refine wl <| ZI rfl ⟨g2, 0, none⟩ (.agg (Zu ⟨s1, m2, m3, m4, s5, A⟩ a6 c6)) (Y0.out) <| Zt rfl (hst) <| ZV Z4 <| wn ?_
    simp only [pu]
    go_wp2_with fail
    exact bodyPost_ret (ZP (p := 2) (q := 3) rfl (by kernel_rfl) (Za hZ) rfl) rfl HE.out
 ·refine wl <| ZV (Z8 e5) <| ZM (YZ rfl e5 0 (decide_eq_false he)) <| wn ?_
  simp only [pu]
  obtain ⟨hst, hZ⟩ := YC (y := zX) (a' := none) (c' := 0) MR
  have Zj := Z9 (ZT Pv.out HG2.out (Zu zX none 0))
  have HE := Z9 (Jv.out _ Zj.out (HR1.out he))
  generalize World.setRow _ g2 (Zu zX none 0) = V9 at *
  clear Jv DC HR1 HR2 tX
  go_upto_region 3 with fail
  refine wl <| ZV (.agg #[.string ⟨#[]⟩, Z7 0, Z7 0, Z7 0, .string ⟨#[]⟩, .slice none 0 0]) <| Zt rfl (hst) <| ZV ZY <| wn ?_
  simp only [pu]
  go_wp2_with fail
  exact bodyPost_ret (ZP (p := 2) (q := 3) rfl (by kernel_rfl) (Za hZ) rfl) rfl HE.out
end Go.Proofs.Ytnhlpahoomcgnaa
namespace Go.Proofs.Ytnhlpahoomcgnaa
open Go.RowKit
structure KR (W : World) (g2 g7 : Nat) (x : Tf) (b6 b9 b10 b14 : Bool) (x55 x58 x59 : Value) (V : World) : Prop where
 o9 : b9 = true → b6 = true
 o10 : b10 = true → b9 = true
 but : But g2 W V
 bx : Bx V g7 (Yv x) 54
 bz : b14 = false → Bx V g2 (Yv TK) 54
 bd : b14 = true → Bx V g2 (Yv x) 54
 r55 : b6 = true → b9 = false → ∃ qs, YB V W.heap.size x55 qs ∧ qs.map Prod.fst = tF 1 x.1
 r58 : b9 = true → b10 = false → ∃ qs, YB V W.heap.size x58 qs ∧ qs.map Prod.fst = Ti x
 r59 : b10 = true → Own V W.heap.size x59 (msg (Ti x))
section
variable {W : World} {g2 g7 : Nat} {x : Tf} {b6 b9 b10 b14 : Bool} {x55 x58 x59 : Value} {V : World}
end
end Go.Proofs.Ytnhlpahoomcgnaa
namespace Go.Proofs.Ytnhlpahoomcgnaa
open Go.RowKit
end Go.Proofs.Ytnhlpahoomcgnaa
namespace Go.Proofs.Ytnhlpahoomcgnaa
attribute [local irreducible] wpList wpQuiet
open Go.RowKit
def DJ (w : World) (r : Zf × Int) (e : Ending) (w' : World) : Prop := ∃ a c, e = .returned (.tuple #[.agg (Zu r.1 a c), Z8 r.2]) ∧ Yn w' w.heap.size (.slice a r.1.tr.length c) r.1.tr ∧ Below w.heap.size w w'
theorem qA {L : List Int} {t : Zf} (h8 : ∀ x, x ∈ L → W8 x) (hl : L.length ≤ 4096) (h : MP L = some t) : Gz t := by
 unfold MP at h
 split at h
 ·cases h
 rename_i hfl
 have hfl : (YD L).2.2 = 0 := by simpa using hfl
 rcases Tj (fun x hx => h8 x hx) (by omega) with ⟨-, q⟩ | ⟨P, e0, hm, hP⟩
 ·exact absurd hfl q
 rw [e0] at h
 obtain ⟨h1, h2, h3, h4, h5⟩ := Lr hP h
 refine ⟨h2, h3, h4, h5, ?_⟩
 have := (QA t).2
 have e2 : (form t).length = (msg P).length := by rw [h1]; rfl
 rw [e2, hm] at this
 omega
theorem F6 {L : List Int} (hl : ¬ 4096 < L.length) (h : MP L = none) : Zq L = (zX, 4) := by
 unfold MP at h
 unfold Zq
 rw [if_neg hl]
 split at h
 ·rename_i hf; rw [if_pos hf]
 ·rename_i hf; rw [if_neg hf, h]
theorem F5 {L : List Int} {t : Zf} (hl : ¬ 4096 < L.length) (h : MP L = some t) : Zq L = if X5 t = 0 then (t, 0) else (zX, X5 t) := by
 unfold MP at h
 unfold Zq
 rw [if_neg hl]
 split at h
 ·cases h
 ·rename_i hf; rw [if_neg hf, h]
theorem H6 (V : World) (x : Zf) (a : Option Addr) (c : Nat) : ∃ V2, (Instr.storeAt 57 (Z5 V.heap.size 0) (.agg (Zu x a c))).run Try.prog (V.alloc (.cells (Zu zX none 0) 57)) = .ok () V2 ∧ Below V.heap.size V V2 ∧ Bx V2 V.heap.size (Zu x a c) 57 :=
 have hb : Bx (V.alloc (.cells (Zu zX none 0) 57)) V.heap.size (Zu zX none 0) 57 := heap_alloc_last V _
 ⟨_, (YC hb).1, ZT ((Below.refl _ V).alloc (Nat.le_refl _) _) (Nat.le_refl _) _, (YC hb).2⟩
theorem DI (a : Option Addr) (c : Nat) (L : List Int) (w : World) (hs : Sl w a c L) (hc : L.length ≤ c) (h8 : ∀ y, y ∈ L → W8 y) :
  Calls Try.prog 58 #[.slice a L.length c] w (DJ w (Zq L)) := by
 have hb0 : Below w.heap.size w (w.alloc (.cells (Zu zX none 0) 57)) := (Below.refl _ w).alloc (Nat.le_refl _) _
 have hX0 : Bx (w.alloc (.cells (Zu zX none 0) 57)) w.heap.size (Zu zX none 0) 57 := heap_alloc_last w _
 have CR := Z9 (fun (hl : L.length ≤ 4096) => qx a c L (w.alloc (.cells (Zu zX none 0) 57)) (ZH hs hb0) hc (by omega) h8)
 have Gw := Z9 (fun t (hl : L.length ≤ 4096) h => @qA L t h8 hl h)
 have tZ : Hid (∀ V r a2 c2, Zq L = r → Below w.heap.size w V → Yn V w.heap.size (.slice a2 r.1.tr.length c2) r.1.tr → DJ w (Zq L) (.returned (.tuple #[.agg (Zu r.1 a2 c2), Z8 r.2])) V) := Z9 fun V r a2 c2 e hb hr => ⟨a2, c2, by rw [e], by rw [e]; exact hr, hb⟩
 have HD1 : Hid (4096 < L.length → Zq L = (zX, 3)) := Z9 DF
 have HD2 : Hid (¬ 4096 < L.length → MP L = none → Zq L = (zX, 4)) := Z9 F6
 have HD3 := Z9 (fun t h1 h2 => @F5 L t h1 h2)
 generalize Zq L = DX at *
 generalize MP L = RL at *
 go_enter Try.func58, Try.ntmps58
 go_upto_region 1 with fail
 change Code.wp _ _ _ _ (w.alloc (.cells (Zu zX none 0) 57))
 generalize w.alloc (.cells (Zu zX none 0) 57) = W at *
 obtain ⟨g2, hg2⟩ := ZR w.heap.size
 have HB0 := Z9 hb0
 have HG2 : Hid (w.heap.size ≤ g2) := Z9 (by omega)
 have QX : Hid (g2 < W.heap.size) := Z9 (by rw [← hg2]; exact hX0.lt)
 rw [hg2] at hX0
 rw [hg2]
 have HWW : Hid (w.heap.size ≤ W.heap.size) := Z9 hb0.size
 clear hb0 hg2 hs h8
 by_cases hl : 4096 < L.length
 ·refine wl <| ZG (.slice a L.length c) (Z8 L.length) <| ZM (Zl rfl (L.length) (4096) dT) <| wn ?_
  simp only [pu]
  obtain ⟨Jy, hZ⟩ := YC (y := zX) (a' := none) (c' := 0) hX0
  have Zj := Z9 (ZT HB0.out HG2.out (Zu zX none 0))
  have HE := Z9 (tZ.out _ (zX, 3) none 0 (HD1.out hl) Zj.out (Yn.nil _ _))
  generalize World.setRow _ g2 (Zu zX none 0) = V9 at *
  clear tZ Zj
  go_upto_region 2 with fail
  refine wl <| ZV (.agg #[.string ⟨#[]⟩, Z7 0, Z7 0, Z7 0, .string ⟨#[]⟩, .slice none 0 0]) <| Zt rfl (Jy) <| ZV (Z8 3) <| wn ?_
  simp only [pu]
  go_wp2_with fail
  exact bodyPost_ret (ZP (p := 2) (q := 3) rfl (by kernel_rfl) (Za hZ) rfl) rfl HE.out
 ·refine wl <| ZG (.slice a L.length c) (Z8 L.length) <| ZM (Zl rfl (L.length) (4096) dF) <| wn ?_
  simp only [pu]
  have CRW := CR.out (by omega)
  clear CR
  go_upto_region 3 with fail
  refine wl <| ZV (.slice a L.length c) <|
   Yl (fun v w' => ∃ x ok a c, v = .tuple #[.agg (Zu x a c), .bool ok] ∧ RL = (if ok = true then some x else none) ∧ Yn w' W.heap.size (.slice a x.tr.length c) x.tr ∧ Below W.heap.size W w') (CRW.mono fun e w' q => by obtain ⟨x, ok, a, c, h1, h2⟩ := q; exact ⟨_, h1, x, ok, a, c, rfl, h2⟩) (fun v5 V5 hq => ?_)
  obtain ⟨x, ok, a5, c5, rfl, hok, hrt, hb5⟩ := hq
  obtain ⟨V6, Xm, hb6, hbx⟩ := H6 V5 x a5 c5
  simp only [pu]
  refine YT (.tuple #[.agg (Zu x a5 c5), .bool ok]) (.agg (Zu x a5 c5)) (.bool ok) ?_
  simp only [pu]
  refine Zz rfl (some 4) rfl (Z5 V5.heap.size 0) (V5.alloc (.cells (Zu zX none 0) 57)) (by kernel_rfl) ?_
  simp only [pu]
  refine Zt rfl (Xm) <| ZV (.bool ok) <| wn ?_
  simp only [pu]
  obtain ⟨g4, hg4⟩ := ZR V5.heap.size
  have Vs := hb5.trans (hb6.mono hb5.size)
  have VJ := Z9 (hX0.below hX0.lt Vs)
  have Xp := Z9 (HB0.out.trans (Vs.mono HB0.out.size))
  have MB := Z9 (hrt.below hb6)
  have YK := Z9 hbx
  rw [hg4] at YK ⊢
  clear Xm hg4 hb5 hb6 Vs hX0 HB0 hrt hbx
  clear CRW
  go_upto_region 4 with fail
  cases ok
  ·refine wl <| ZG ZY Z4 <| wn ?_
   simp only [pu]
   obtain ⟨Jy, hZ⟩ := YC (y := zX) (a' := none) (c' := 0) VJ.out
   have Zj := Z9 (ZT Xp.out HG2.out (Zu zX none 0))
   have HE := Z9 (tZ.out _ (zX, 4) none 0 (HD2.out hl hok) Zj.out (Yn.nil _ _))
   generalize World.setRow _ g2 (Zu zX none 0) = V9 at *
   clear tZ Zj
   go_upto_region 5 with fail
   refine wl <| ZV (.agg #[.string ⟨#[]⟩, Z7 0, Z7 0, Z7 0, .string ⟨#[]⟩, .slice none 0 0]) <| Zt rfl (Jy) <| ZV (Z8 4) <| wn ?_
   simp only [pu]
   go_wp2_with fail
   exact bodyPost_ret (ZP (p := 2) (q := 3) rfl (by kernel_rfl) (Za hZ) rfl) rfl HE.out
  ·refine wl <| ZG Z4 ZY <| wn ?_
   simp only [pu]
   have yx : Hid ((X5 x = 0 → DX = (x, 0)) ∧ (X5 x ≠ 0 → DX = (zX, X5 x))) := Z9 ⟨fun h => by rw [HD3.out x hl hok, if_pos h], fun h => by rw [HD3.out x hl hok, if_neg h]⟩
   have aa4 := Gw.out x (by omega) hok
   obtain ⟨ar, cr, er, hcr, -⟩ := MB.out.cs
   simp only [Value.slice.injEq, true_and] at er
   obtain ⟨rfl, rfl⟩ := er
   have CV := VL x a5 c5 V6 hcr aa4.b.s2
   obtain ⟨vx, yu⟩ := ZR (X5 x)
   rw [yu] at CV
   go_upto_region 6 with fail
   refine wl <| ZI rfl ⟨g4, 0, none⟩ (.agg (Zu x a5 c5)) (Za YK.out) <| Y2 (Z8 vx) (fun w' => Below V6.heap.size V6 w') CV (fun V7 hb7 => ?_)
   simp only [pu]
   refine ZV (Z8 vx) <| wn ?_
   simp only [pu]
   have MI := Z9 (VJ.out.below VJ.out.lt hb7)
   have jr := Z9 (YK.out.below YK.out.lt hb7)
   have Um := Z9 (Xp.out.trans (hb7.mono Xp.out.size))
   have uz := Z9 (MB.out.below hb7)
   clear VJ YK Xp MB hb7 hcr CV
   go_upto_region 7 with fail
   by_cases hv : vx = 0
   ·refine wl <| ZV (Z8 vx) <| ZM (YZ rfl vx 0 (decide_eq_true hv)) <| wn ?_
    simp only [pu]
    obtain ⟨Jy, hZ⟩ := YC (y := x) (a' := a5) (c' := c5) MI.out
    have Y0 := Z9 (Za jr.out)
    have Zj := Z9 (ZT Um.out HG2.out (Zu x a5 c5))
    have HRW := Z9 ((Hz (g := g2) uz.out (Zu x a5 c5) QX.out).base (B := w.heap.size) HWW.out)
    have HE := Z9 (tZ.out _ (x, 0) a5 c5 (yx.out.1 (by rw [yu]; exact hv)) Zj.out HRW.out)
    generalize World.setRow _ g2 (Zu x a5 c5) = V9 at *
    clear tZ Zj HRW MI jr Um uz yx
    go_upto_region 9 with fail
    refine wl <| ZI rfl ⟨g4, 0, none⟩ (.agg (Zu x a5 c5)) (Y0.out) <| Zt rfl (Jy) <| ZV (Z8 0) <| wn ?_
    simp only [pu]
    go_wp2_with fail
    exact bodyPost_ret (ZP (p := 2) (q := 3) rfl (by kernel_rfl) (Za hZ) rfl) rfl HE.out
   ·refine wl <| ZV (Z8 vx) <| ZM (YZ rfl vx 0 (decide_eq_false hv)) <| wn ?_
    simp only [pu]
    have HDV := Z9 (yx.out.2 (by rw [yu]; exact hv))
    rw [yu] at HDV
    clear yx
    obtain ⟨Jy, hZ⟩ := YC (y := zX) (a' := none) (c' := 0) MI.out
    have Zj := Z9 (ZT Um.out HG2.out (Zu zX none 0))
    have HE := Z9 (tZ.out _ (zX, vx) none 0 HDV.out Zj.out (Yn.nil _ _))
    generalize World.setRow _ g2 (Zu zX none 0) = V9 at *
    clear tZ Zj
    go_upto_region 8 with fail
    refine wl <| ZG (.agg #[.string ⟨#[]⟩, Z7 0, Z7 0, Z7 0, .string ⟨#[]⟩, .slice none 0 0]) (Z8 vx) <| Zt rfl (Jy) <| ZV (Z8 vx) <| wn ?_
    simp only [pu]
    go_wp2_with fail
    exact bodyPost_ret (ZP (p := 2) (q := 3) rfl (by kernel_rfl) (Za hZ) rfl) rfl HE.out
end Go.Proofs.Ytnhlpahoomcgnaa
namespace Go.Proofs.Ytnhlpahoomcgnaa
open Go.RowKit
theorem infoSt : (Try.prog.info? 9).map (fun i => (i.zero, i.size, i.bytes)) = some (some (.string ByteArray.empty), 1, 16) := by kernel_rfl
theorem yC (b off n c k : Nat) (hk : k < n) (V : World) (ρ : Operand → Value) (o : Oper) {x y : Operand} (ho : o.op = .indexAddr 66 x y) (hx : ρ x = .slice (some ⟨b, off, none⟩) n c) (hy : ρ y = Z8 k) : (execOp ρ o).run Try.prog V = .ok (.value (Z5 b (off + k))) V := by
 have hs : (sizeOf (Try.prog.elem 66)).run Try.prog V = .ok 1 V := by kernel_rfl
 have hlm : (k : Int) < (n : Int) := by omega
 unfold execOp
 simp only [ho, hx, hy]
 go_simp
def strs (S : List ByteArray) : List Value := S.map Value.string
theorem yA {S : List ByteArray} {k : Nat} (h : k < S.length) : (strs S)[k]? = some (.string (S.getD k Vr)) := by
 unfold strs
 rw [List.getElem?_map, List.getElem?_eq_getElem h, List.getD_eq_getElem?_getD, List.getElem?_eq_getElem h]
 rfl
theorem DN {w : World} {g t : Nat} {S : List ByteArray} (h : Bx w g (strs S).toArray t) {k : Nat} (hk : k < S.length) : (Instr.loadAt 9 (Z5 g (0 + k))).run Try.prog w = .ok (.string (S.getD k Vr)) w := by
 rw [Nat.zero_add]
 exact Bx.load h (i := k) (by rw [List.getElem?_toArray]; exact yA hk) (by kernel_rfl)
def Xn : ByteArray := ⟨#[97, 110, 110]⟩
def Wn : ByteArray := ⟨#[98, 111, 98]⟩
theorem kJ : isName (nums Xn) = true := by decide +kernel
theorem kH : isName (nums Wn) = true := by decide +kernel
theorem aQ : YE (nums Vr) = true := H7 (Lu (by decide +kernel)) (by decide)
theorem mG (n : Int) (h : 0 ≤ n ∧ n ≤ 1000) : W64 n := ⟨h.1, by omega⟩
def NS (w : World) (g : Nat) (a : Option Addr) (c : Nat) (L : List Int) (k : Nat) : Prop := ∃ N : Nat, N ≤ k ∧ Bx w g #[.slice a L.length c, Z8 N] 69 ∧ Cs w a (XO L) ∧ (L ≠ [] → ∀ x, a = some x → x.block ≠ g)
theorem NS.below {w w' : World} {g c k : Nat} {a : Option Addr} {L : List Int} (h : NS w g a c L k) (hb : Below w.heap.size w w') : NS w' g a c L k := by
 obtain ⟨N, h1, h2, h3, h4⟩ := h
 exact ⟨N, h1, h2.below h2.lt hb, h3.below hb, h4⟩
theorem NV {w w' : World} {g : Nat} {a : Option Addr} {L : List Int} (h : Cs w a (XO L)) (hb : But g w w') (hn : L ≠ [] → ∀ x, a = some x → x.block ≠ g) : Cs w' a (XO L) := by
 cases L with
 | nil => exact Cs.nil _ _
 | cons x r => exact h.but hb (hn (by simp))
theorem NS.but {w w' : World} {g q c k : Nat} {a : Option Addr} {L : List Int} (h : NS w g a c L k) (hb : But q w w') (hq : g < q) (ha : L ≠ [] → ∀ x, a = some x → x.block < q) : NS w' g a c L k := by
 obtain ⟨N, h1, h2, h3, h4⟩ := h
 exact ⟨N, h1, h2.but hb (by omega), NV h3 hb (fun h5 x hx => by have := ha h5 x hx; omega), h4⟩
theorem NS.mono {w : World} {g c k k2 : Nat} {a : Option Addr} {L : List Int} (h : NS w g a c L k) (hk : k ≤ k2) : NS w g a c L k2 := by
 obtain ⟨N, h1, h2⟩ := h
 exact ⟨N, Nat.le_trans h1 hk, h2⟩
theorem NS.lt {w : World} {g c k : Nat} {a : Option Addr} {L : List Int} (h : NS w g a c L k) : g < w.heap.size := by
 obtain ⟨N, -, h2, -⟩ := h
 exact h2.lt
def NxO (w : World) (g : Nat) (a : Option Addr) (c : Nat) (L : List Int) (k : Nat) (n : Int) (e : Ending) (w' : World) : Prop := ∃ v : Nat, e = .returned (Z8 v) ∧ (v : Int) < n ∧ NS w' g a c L (k + 1) ∧ But g w w'
theorem Tn {w : World} {g c k : Nat} {a : Option Addr} {L : List Int} (h : NS w g a c L k) (hl : L.length ≤ 100000) (hk : k ≤ 100000) (n : Int) (hn : 0 < n) (hn2 : n ≤ 1000000) : Calls Try.prog 21 #[Z5 g 0, Z8 n] w (NxO w g a c L k n) := by
 obtain ⟨N, h1, h2, h3, h4⟩ := h
 refine (Ig g L a c N n w h2 h3 hl (by omega) hn hn2).mono fun e w' q => ?_
 obtain ⟨q1, q2, q3⟩ := q
 have hp := Tq (L.getD N 0) n hn
 refine ⟨(pl (L.getD N 0) n).toNat, by rw [q1]; congr 2; omega, by omega, ⟨N + 1, by omega, q3, NV h3 q2 h4, h4⟩, q2⟩
def dh (s : ByteArray) : Prop := isName (nums s) = true ∧ s.size ≤ 20
def MmQ (s : ByteArray) : Prop := YE (nums s) = true ∧ s.size ≤ 60
end Go.Proofs.Ytnhlpahoomcgnaa
