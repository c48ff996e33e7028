/-
 The walk of SlabReads.
-/
import Derived.Test.YtmpajgaanghpoaaWP
namespace Go.Proofs.Ytmpajgaanghpoaa
attribute [local irreducible] wpList wpQuiet
open Go.RowKit
set_option maxRecDepth 100000
set_option linter.unusedSimpArgs false
set_option linter.unusedVariables false

section
variable {P : Program} {t e s bytes : Nat} {z : Value}
/-- 'append' of any part to a row of the call's own: where the new row lies. -/
theorem app_at (hu : P.underlying t = some (.slice e)) (hinfo : (P.info? e).map (fun i => (i.zero, i.size, i.bytes)) = some (some z, s, bytes)) (hzs : z.cells.size = s) (hs : 0 < s) (hby : bytes ≤ 1000)
  {w : World} {B n m : Nat} {v : Value} {xs : List Value} (hO : w.ownsRow B e s v n xs) (pa : Option Addr) (cp : Nat) (ys : List Value) (hP : Cs w pa ys) (hl : ys.length = m * s) (h1 : ∀ u ∈ ys, u.oneCell' = true) (hB : B ≤ w.heap.size) (hn : n ≤ 100000) (hm : m ≤ 100000) :
  ∃ v' w', (Builtin.append_ #[t, t] t #[v, .slice pa m cp]).run P w = .ok v' w' ∧ w'.ownsRow B e s v' (n + m) (xs ++ ys) ∧ Below B w w' ∧ w.grownBy w' v.ownBlock ∧ (v'.ownBlock = v.ownBlock ∨ v'.ownBlock = some w.heap.size) := by
 obtain ⟨i0, hi, hz0, hz1, hz2⟩ := info_parts hinfo
 by_cases hy : ys = []
 ·subst hy
  obtain rfl : m = 0 := by
   rcases Nat.eq_zero_or_pos m with h | h
   ·exact h
   ·have := Nat.mul_pos h hs
    rw [← hl] at this
    simp at this
  cases pa with
  | none =>
   refine ⟨v, w, ?_, by simpa using hO, Below.refl _ _, World.grownBy.refl w _, .inl rfl⟩
   rcases hO.2 with ⟨rfl, h0⟩ | ⟨g, cap, cur, rfl, _, _, hnc, _⟩
   ·simp [Builtin.append_, run_underlying hu, sizeOf, typeInfo, hi, Builtin.lenOf, Builtin.firstCells]
   ·simp [Builtin.append_, run_underlying hu, sizeOf, typeInfo, hi, Builtin.lenOf, Builtin.firstCells, hnc, storeCells]
  | some x =>
   obtain ⟨v', w', hr, h2, h3, -, h4⟩ := run_append_own_at (P := P) w B t t e i0 z s bytes hu hi hz0 hz1 hz2 hzs hs v n xs hO x 0 cp [] (by simp) (fun j u h => by simp at h) (by simp) (by unfold maxLen; omega) (by have := Nat.mul_le_mul (show n + 0 ≤ 100000 by omega) hby; omega) hB
   exact ⟨v', w', hr, h2, (Below.refl _ w).grown h3 hB (fun j hj => (hO.lt j hj).1), h3, h4⟩
 ·obtain ⟨y, hy0⟩ : ∃ y, ys[0]? = some y := by
   cases ys with
   | nil => exact absurd rfl hy
   | cons y r => exact ⟨y, rfl⟩
  obtain ⟨b, off, rfl, -⟩ := hP 0 y hy0
  have hcells : ∀ j u, ys[j]? = some u → w.cell? ((⟨b, off, none⟩ : Addr).add j) = some u := fun j u hu => by
   obtain ⟨b2, off2, e2, -, hc⟩ := hP j u hu
   simp only [Option.some.injEq, Addr.mk.injEq, and_true] at e2
   obtain ⟨rfl, rfl⟩ := e2
   rw [Addr.add_mid]
   exact hc
  obtain ⟨v', w', hr, h2, h3, -, h4⟩ := run_append_own_at (P := P) w B t t e i0 z s bytes hu hi hz0 hz1 hz2 hzs hs v n xs hO ⟨b, off, none⟩ m cp ys hl hcells h1 (by unfold maxLen; omega) (by have := Nat.mul_le_mul (show n + m ≤ 200000 by omega) hby; omega) hB
  exact ⟨v', w', hr, h2, (Below.refl _ w).grown h3 hB (fun j hj => (hO.lt j hj).1), h3, h4⟩
end
theorem nil_hn (w : World) : (Instr.buildSlice 36 0 #[]).run Try.prog w = .ok (.slice (some ⟨w.heap.size, 0, none⟩) 0 0) (w.alloc (.cells #[] 33)) := build_nil Try.underlying36 infoHn w
theorem hcs_one (L : List (Int × Int)) : ∀ u ∈ hcs L, u.oneCell' = true := fl_one hnl hn_one L
theorem app_hn {w : World} {B : Nat} {v : Value} {A : List (Int × Int)} (h : RowH w B v A) (hB : B ≤ w.heap.size) (pa : Option Addr) (n cp : Nat) (M : List (Int × Int)) (hM : Cs w pa (hcs M)) (hn : M.length = n) (hl : A.length ≤ 100000) (hm : n ≤ 100000) :
  ∃ v' w', (Builtin.append_ #[36, 36] 36 #[v, .slice pa n cp]).run Try.prog w = .ok v' w' ∧ RowH w' B v' (A ++ M) ∧ Below B w w' ∧ w.grownBy w' v.ownBlock ∧ (v'.ownBlock = v.ownBlock ∨ v'.ownBlock = some w.heap.size) := by
 subst hn
 obtain ⟨v', w', h1, h2, h3⟩ := app_at (P := Try.prog) (t := 36) (m := M.length) Try.underlying36 infoHn (by kernel_rfl) (by omega) (by omega) h pa cp (hcs M) hM (fl_len hnl hn_len M) (hcs_one M) hB hl hm
 refine ⟨v', w', h1, ?_, h3⟩
 unfold RowH
 rw [show hcs (A ++ M) = hcs A ++ hcs M from List.flatMap_append, List.length_append]
 exact h2
theorem getS_b {m : Sm} {u : Nat} (h : Wm m u) (q : Int × Int) : EnB (getS m q) := by
 cases hv : valS m q with
 | false => rw [get_no hv]; exact EnB.z
 | true =>
  obtain ⟨i, hi, hil, -, -⟩ := val_iff hv
  rw [get_yes hv hi]
  exact ⟨h.raw i hil, h.prs i hil⟩
/-- A slice of handles that reads. -/
def HS (V : World) (x : Value) (H : List (Int × Int)) : Prop := ∃ a c, x = .slice a H.length c ∧ Cs V a (hcs H)
theorem HS.below {V V2 : World} {x : Value} {H : List (Int × Int)} (h : HS V x H) (hb : Below V.heap.size V V2) : HS V2 x H := let ⟨a, c, h1, h2⟩ := h; ⟨a, c, h1, h2.below hb⟩
theorem HdO.hs {w : World} {H : List (Int × Int)} {e : Ending} {w' : World} (h : HdO w H e w') : ∃ v, e = .returned v ∧ HS w' v H ∧ Below w.heap.size w w' := by
 obtain ⟨a, c, h1, h2, h3⟩ := h
 exact ⟨_, h1, ⟨a, c, rfl, (own_nc h2).1⟩, h3⟩
structure K2C (b1 b3 b4 b5 : Bool) (x1 x3 : Value) (H : List (Int × Int)) (W V : World) : Prop where
 bel : Below W.heap.size W V
 c1 : b1 = true → HS V x1 H
 c3 : b3 = true → HS V x3 H
 o4 : b4 = true → b1 = true
 o5 : b5 = true → b3 = true
theorem K2C.below {b1 b3 b4 b5 : Bool} {x1 x3 : Value} {H : List (Int × Int)} {W V V2 : World} (h : K2C b1 b3 b4 b5 x1 x3 H W V) (hb : Below V.heap.size V V2) : K2C b1 b3 b4 b5 x1 x3 H W V2 := ⟨h.bel.trans (hb.mono h.bel.size), fun e => (h.c1 e).below hb, fun e => (h.c3 e).below hb, h.o4, h.o5⟩
/-- A row of handles that is copied and grows by one. -/
structure CJ (W : World) (F : List (Int × Int)) (q : Int × Int) (b0 b1 bk b2 b6 : Bool) (x0 x1 xk x2 : Value) (V : World) : Prop where
 bel : Below W.heap.size W V
 r0 : b0 = true → b1 = false → RowH V W.heap.size x0 []
 r1 : b1 = true → b2 = false → RowH V W.heap.size x1 F
 r2 : b2 = true → RowH V W.heap.size x2 (F ++ [q])
 c1 : b1 = true → b0 = true
 c2 : b2 = true → b1 = true
 c6 : b6 = true → b2 = true
 kx : bk = true → ∃ g, xk = .slice (some ⟨g, 0, none⟩) 1 1 ∧ Bx V g (hnA q) 33 ∧ (b0 = true → b1 = false → x0.ownBlock ≠ some g) ∧ (b1 = true → b2 = false → x1.ownBlock ≠ some g)
section
variable {W V V2 : World} {F : List (Int × Int)} {q : Int × Int} {b0 b1 bk b2 b6 : Bool} {x0 x1 xk x2 v : Value}
theorem RowH.ne {B : Nat} {x : Value} {L : List (Int × Int)} (h : RowH V B x L) : x.ownBlock ≠ some V.heap.size := fun e => Nat.lt_irrefl _ (h.lt _ e).2
theorem CJ.start : CJ W F q false false false false false x0 x1 xk x2 { W with drawn := W.drawn + 1 } := ⟨(Below.refl _ W).drew, (fun e => nomatch e), (fun e => nomatch e), (fun e => nomatch e), (fun e => nomatch e), (fun e => nomatch e), (fun e => nomatch e), (fun e => nomatch e)⟩
theorem CJ.n0 (h : CJ W F q false b1 bk b2 b6 x0 x1 xk x2 V) : b1 = false ∧ b2 = false ∧ b6 = false := by
 obtain rfl := ffw h.c1 rfl
 obtain rfl := ffw h.c2 rfl
 obtain rfl := ffw h.c6 rfl
 exact ⟨rfl, rfl, rfl⟩
theorem CJ.n1 (h : CJ W F q b0 false bk b2 b6 x0 x1 xk x2 V) : b2 = false ∧ b6 = false := by
 obtain rfl := ffw h.c2 rfl
 obtain rfl := ffw h.c6 rfl
 exact ⟨rfl, rfl⟩
theorem CJ.n2 (h : CJ W F q b0 b1 bk false b6 x0 x1 xk x2 V) : b6 = false := ffw h.c6 rfl
theorem CJ.s6 (h : CJ W F q b0 b1 bk true b6 x0 x1 xk x2 V) : CJ W F q b0 b1 bk true true x0 x1 xk x2 V := { h with c6 := fun _ => rfl }
theorem CJ.nil (h : CJ W F q false false bk false false x0 x1 xk x2 V) : CJ W F q true false bk false false (.slice (some ⟨V.heap.size, 0, none⟩) 0 0) x1 xk x2 (V.alloc (.cells #[] 33)) :=
 have hb : Below V.heap.size V (V.alloc (.cells #[] 33)) := (Below.refl _ V).alloc (Nat.le_refl _) _
 {bel := h.bel.trans (hb.mono h.bel.size), r0 := fun _ _ => own_base (own_nil V 33 2) h.bel.size, r1 := (fun e => nomatch e), r2 := (fun e => nomatch e), c1 := (fun e => nomatch e), c2 := (fun e => nomatch e), c6 := (fun e => nomatch e),
  kx := fun hk => by
   obtain ⟨g, e, hx, -⟩ := h.kx hk
   exact ⟨g, e, hx.below hx.lt hb, fun _ _ e2 => by have := hx.lt; simp only [Value.ownBlock, Option.some.injEq] at e2; omega, (fun e => nomatch e)⟩ }
theorem CJ.key (h : CJ W F q b0 b1 false b2 b6 x0 x1 xk x2 V) : CJ W F q b0 b1 true b2 b6 x0 x1 (.slice (some ⟨V.heap.size, 0, none⟩) 1 1) x2 (V.alloc (.cells (hnA q) 33)) :=
 have hb : Below V.heap.size V (V.alloc (.cells (hnA q) 33)) := (Below.refl _ V).alloc (Nat.le_refl _) _
 {bel := h.bel.trans (hb.mono h.bel.size), r0 := fun h1 h2 => (h.r0 h1 h2).below hb, r1 := fun h1 h2 => (h.r1 h1 h2).below hb, r2 := fun h1 => (h.r2 h1).below hb, c1 := h.c1, c2 := h.c2, c6 := h.c6,
  kx := fun _ => ⟨V.heap.size, rfl, heap_alloc_last V _, fun h1 h2 => (h.r0 h1 h2).ne, fun h1 h2 => (h.r1 h1 h2).ne⟩ }
theorem CJ.one (h : CJ W F q true false bk false false x0 x1 xk x2 V) (hO : RowH V2 W.heap.size v F) (hb : Below W.heap.size V V2) (hg : V.grownBy V2 x0.ownBlock) (hat : v.ownBlock = x0.ownBlock ∨ v.ownBlock = some V.heap.size) : CJ W F q true true bk false false x0 v xk x2 V2 :=
 {bel := h.bel.trans hb, r0 := (fun _ e => nomatch e), r1 := fun _ _ => hO, r2 := (fun e => nomatch e), c1 := fun _ => rfl, c2 := (fun e => nomatch e), c6 := (fun e => nomatch e),
  kx := fun hk => by
   obtain ⟨g, e, hx, h0, -⟩ := h.kx hk
   obtain ⟨h1, h2⟩ := kx_grown hx (h0 rfl rfl) hg hat
   exact ⟨g, e, h1, (fun _ e => nomatch e), fun _ _ => h2⟩ }
theorem CJ.two (h : CJ W F q b0 true true false false x0 x1 xk x2 V) (hO : RowH V2 W.heap.size v (F ++ [q])) (hb : Below W.heap.size V V2) (hg : V.grownBy V2 x1.ownBlock) (hat : v.ownBlock = x1.ownBlock ∨ v.ownBlock = some V.heap.size) : CJ W F q b0 true true true false x0 x1 xk v V2 :=
 {bel := h.bel.trans hb, r0 := (fun _ e => nomatch e), r1 := (fun _ e => nomatch e), r2 := fun _ => hO, c1 := h.c1, c2 := fun _ => rfl, c6 := (fun e => nomatch e),
  kx := fun hk => by
   obtain ⟨g, e, hx, -, h0⟩ := h.kx hk
   obtain ⟨h1, h2⟩ := kx_grown hx (h0 rfl rfl) hg hat
   exact ⟨g, e, h1, (fun _ e => nomatch e), (fun _ e => nomatch e)⟩ }
end
theorem build_h3 (p q r : Int × Int) (V : World) : (Instr.buildSlice 36 3 #[(0, .agg (hnA p)), (1, .agg (hnA q)), (2, .agg (hnA r))]).run Try.prog V = .ok (.slice (some ⟨V.heap.size, 0, none⟩) 3 3) (V.alloc (.cells (hcs [p, q, r]).toArray 33)) := by
 obtain ⟨i0, hi, hz0, hz1, hz2⟩ := info_parts infoHn
 refine run_buildSlice V 36 33 3 _ (hcs [p, q, r]).toArray i0 _ Try.underlying36 hi hz0 (by rw [hz1]; omega) (by rw [hz1]; omega) ?_
 rw [hz1]
 kernel_rfl
set_option maxRecDepth 100000 in
set_option maxHeartbeats 8000000 in
theorem reads_core (a : Option Addr) (c : Nat) (L : List Int) (q : Int × Int) (w : World) (hl : L.length ≤ 9223372036854775807) (hr : Cs w a (icells L)) : Calls Try.prog 4 #[.slice a L.length c, .agg #[.int .i64 q.1, .int .i64 q.2]] w fun e w' => e = .returned (.bool true) ∧ Below w.heap.size w w' := by
 have HR := Lib.hid hr
 clear hr
 go_enter Try.func4, Try.ntmps4
 go_upto_region 1 with fail
 change Code.wp _ _ _ _ (w.alloc (.cells #[.int .i64 q.1, .int .i64 q.2] 33))
 have hb_0 : Below w.heap.size w (w.alloc (.cells #[.int .i64 q.1, .int .i64 q.2] 33)) := (Below.refl _ w).alloc (Nat.le_refl _) _
 have hX3 : Bx (w.alloc (.cells #[.int .i64 q.1, .int .i64 q.2] 33)) w.heap.size #[.int .i64 q.1, .int .i64 q.2] 33 := heap_alloc_last w _
 have hs_0 : (w.alloc (.cells #[.int .i64 q.1, .int .i64 q.2] 33)).heap.size = w.heap.size + 1 := by simp
 generalize w.alloc (.cells #[.int .i64 q.1, .int .i64 q.2] 33) = W at *
 obtain ⟨g3, hg3⟩ : ∃ g, w.heap.size = g := ⟨_, rfl⟩
 rw [hg3] at hX3
 have HGE : Hid (g3 = w.heap.size + 0 ∧ W.heap.size = w.heap.size + 1) := Lib.hid ⟨by omega, by omega⟩
 have HB := Lib.hid hb_0
 simp only [hg3]
 clear hb_0 hs_0 hg3
 have HBW := HB
 have hbd := one_row a L.length c W
 have hXl : Bx (W.alloc (.cells #[.slice a L.length c] 22)) W.heap.size #[.slice a L.length c] 22 := heap_alloc_last W _
 have hbl : Below W.heap.size W (W.alloc (.cells #[.slice a L.length c] 22)) := (Below.refl _ W).alloc (Nat.le_refl _) _
 have CL := long_one W.heap.size a L.length c _ hXl hl
 generalize W.alloc (.cells #[.slice a L.length c] 22) = W1 at *
 have HB1 := Lib.hid (HBW.out.trans (hbl.mono HBW.out.size))
 have HBL := Lib.hid hbl
 clear hXl hbl
 by_cases hlong : 160 < L.length
 ·skip
  rw [decide_eq_true (by omega)] at CL
  refine wl <| gz1 (.slice a L.length c) ?_
  simp only [pu]
  refine gw_build (by kernel_rfl) (some 20) rfl 63 1 #[(0, .tmp 19)] rfl #[(0, .slice a L.length c)] (by kernel_rfl) (.slice (some ⟨W.heap.size, 0, none⟩) 1 1) _ hbd ?_
  simp only [pu]
  refine gzc (.bool true) (fun w' => W1 = w') (CL) (fun V9 hV9 => ?_)
  subst hV9
  simp only [pu]
  apply wpList_nil
  clear CL hbd
  have CK := known_true W1
  go_upto_region 2 with fail
  refine wl <| gzc (.bool true) (fun w' => Below W1.heap.size W1 w') (CK) (fun V2 hV2 => ?_)
  simp only [pu]
  refine gz1 (.bool true) <| wn ?_
  simp only [pu]
  have HE := HB1.out.trans (hV2.mono HB1.out.size)
  go_wp2_with fail
  go_ret
  exact ⟨rfl, HE⟩
 ·skip
  rw [decide_eq_false (by omega)] at CL
  refine wl <| gz1 (.slice a L.length c) ?_
  simp only [pu]
  refine gw_build (by kernel_rfl) (some 20) rfl 63 1 #[(0, .tmp 19)] rfl #[(0, .slice a L.length c)] (by kernel_rfl) (.slice (some ⟨W.heap.size, 0, none⟩) 1 1) _ hbd ?_
  simp only [pu]
  refine gzc (.bool false) (fun w' => W1 = w') (CL) (fun V9 hV9 => ?_)
  subst hV9
  simp only [pu]
  apply wpList_nil
  clear CL hbd
  have hlong : L.length ≤ 160 := by omega
  have hX3 := hX3.below hX3.lt HBL.out
  have CP := play_ok (c := c) (HR.out.below HB1.out) hlong
  go_upto_region 3 with fail
  refine wl <| gz1 (.slice a L.length c) <|
   gze (fun v w' => ∃ (g0 : Nat) (S : Nat → Prop) (m : Sm) (Lr : List (Pn × Ad)) (ap : Option Addr) (cp : Nat) (af : Option Addr) (cf : Nat), v = .tuple #[.pointer (some ⟨g0, 0, none⟩), .agg (rsA m.mo ap Lr.length cp af m.F.length cf), .bool true] ∧ RepS w' g0 S m ∧ Rm w' m Lr ap cp af cf ∧ Wm m 300 ∧ Below W1.heap.size W1 w') (CP.mono fun e w' z => by obtain ⟨g0, S, m, Lr, ap, cp, af, cf, z1, z2⟩ := z; exact ⟨_, z1, g0, S, m, Lr, ap, cp, af, cf, rfl, z2⟩) (fun vv V1 hq => ?_)
  obtain ⟨g0, S, m, Lr, ap, cp, af, cf, rfl, hrep, hrm, hwm, hbp⟩ := hq
  obtain ⟨V2, hst2, hb2, hX6⟩ := new_bx (c := (rsA 0 none 0 0 none 0 0)) (c' := (rsA m.mo ap Lr.length cp af m.F.length cf)) (ty := 28) V1 rfl (rs_one _ _ _ _ _ _ _) (by kernel_rfl)
  simp only [pu]
  refine gz4 (.tuple #[.pointer (some ⟨g0, 0, none⟩), .agg (rsA m.mo ap Lr.length cp af m.F.length cf), .bool true]) (.pointer (some ⟨g0, 0, none⟩)) (.agg (rsA m.mo ap Lr.length cp af m.F.length cf)) (.bool true) ?_
  simp only [pu]
  refine run_to rfl (some 6) rfl (.pointer (some ⟨V1.heap.size, 0, none⟩)) (V1.alloc (.cells (rsA 0 none 0 0 none 0 0) 28)) (by kernel_rfl) ?_
  simp only [pu]
  refine gz1 (.pointer (some ⟨g0, 0, none⟩)) <| gzs rfl (hst2) <| gz1 (.bool true) <| wn ?_
  simp only [pu]
  have hb12 := hbp.trans (hb2.mono hbp.size)
  have HB2 := Lib.hid (HB1.out.trans (hb12.mono HB1.out.size))
  have HREP := Lib.hid (hrep.below hb2)
  have HRM := Lib.hid (hrm.below hb2)
  have HWM := Lib.hid hwm
  have HX3 := Lib.hid (hX3.below hX3.lt hb12)
  obtain ⟨g6, hg6⟩ : ∃ g, V1.heap.size = g := ⟨_, rfl⟩
  rw [hg6] at hX6 ⊢
  have HX6 := Lib.hid hX6
  have HU : Hid ((300 : Nat) ≤ 1000000) := Lib.hid (by decide)
  clear hst2 hb2 hX6 hbp hrep hrm hwm CP hg6 hb12 hX3
  have C1 := fun U (hU : Below V2.heap.size V2 U) => (r_len (HREP.out.below hU)).mono fun e w' z => (⟨z.1, by rw [← z.2]; exact hU⟩ : e = .returned (.int .i64 (cntL m.P)) ∧ Below V2.heap.size V2 w')
  have C2 := fun U (hU : Below V2.heap.size V2 U) => (r_cnt (HRM.out.below hU) HWM.out HU.out).mono fun e w' z => (⟨z.1, hU.trans (z.2.mono hU.size)⟩ : e = .returned (.int .i64 (cntL m.P)) ∧ Below V2.heap.size V2 w')
  have C3 := fun U (hU : Below V2.heap.size V2 U) => (r_byt (HREP.out.below hU)).mono fun e w' z => (⟨z.1, by rw [← z.2]; exact hU⟩ : e = .returned (.int .i64 (sizL m.P)) ∧ Below V2.heap.size V2 w')
  have C4 := fun U (hU : Below V2.heap.size V2 U) => (r_siz (HRM.out.below hU) HWM.out HU.out).mono fun e w' z => (⟨z.1, hU.trans (z.2.mono hU.size)⟩ : e = .returned (.int .i64 (sizL m.P)) ∧ Below V2.heap.size V2 w')
  go_upto_region 4 with fail
  refine wp_region_class (C := fun U => Below V2.heap.size V2 U) (by kernel_rfl) (by kernel_rfl) ((Below.refl _ V2).drew) ?_
  refine gy (.bool true) <| gy (.bool false) <| gy (.bool false) <| gy (.pointer (some ⟨g0, 0, none⟩)) ?_
  simp only [pu]
  refine gq_call (by kernel_rfl) (some 33) rfl 11 #[.pointer (some ⟨g0, 0, none⟩)] (.int .i64 (cntL m.P)) (fun U hU => by kernel_rfl) (C1) ?_
  simp only [pu]
  refine gyl rfl ⟨g6, 0, none⟩ (.agg (rsA m.mo ap Lr.length cp af m.F.length cf)) (fun U hU => load_rs (HX6.out.below HX6.out.lt hU)) ?_
  simp only [pu]
  refine gq_call (by kernel_rfl) (some 35) rfl 12 #[.agg (rsA m.mo ap Lr.length cp af m.F.length cf)] (.int .i64 (cntL m.P)) (fun U hU => by kernel_rfl) (C2) ?_
  simp only [pu]
  refine gyv (.bool false) (fun U hU => neq_n rfl ((cntL m.P)) ((cntL m.P)) (decide_eq_false (fun h => h rfl)) (by kernel_rfl) (by kernel_rfl) U) <| gy (.bool false) <| gy (.bool false) <| gy (.pointer (some ⟨g0, 0, none⟩)) ?_
  simp only [pu]
  refine gq_call (by kernel_rfl) (some 40) rfl 13 #[.pointer (some ⟨g0, 0, none⟩)] (.int .i64 (sizL m.P)) (fun U hU => by kernel_rfl) (C3) ?_
  simp only [pu]
  refine gyl rfl ⟨g6, 0, none⟩ (.agg (rsA m.mo ap Lr.length cp af m.F.length cf)) (fun U hU => load_rs (HX6.out.below HX6.out.lt hU)) ?_
  simp only [pu]
  refine gq_call (by kernel_rfl) (some 42) rfl 14 #[.agg (rsA m.mo ap Lr.length cp af m.F.length cf)] (.int .i64 (sizL m.P)) (fun U hU => by kernel_rfl) (C4) ?_
  simp only [pu]
  refine gyv (.bool false) (fun U hU => neq_n rfl ((sizL m.P)) ((sizL m.P)) (decide_eq_false (fun h => h rfl)) (by kernel_rfl) (by kernel_rfl) U) <| gy (.bool false) ?_
  simp only [pu]
  apply wpQuiet_nil
  intro V3 hV3
  have HV3 := Lib.hid hV3
  clear C1 C2 C3 C4 hV3
  have h0 : K2C false false false false undef undef (hndL 0 m.P) V3 { V3 with drawn := V3.drawn + 1 } := ⟨(Below.refl _ V3).drew, (fun e => nomatch e), (fun e => nomatch e), (fun e => nomatch e), (fun e => nomatch e)⟩
  go_upto_region 6 with fail
  refine wp_region_inv (fun listed act9 V => ∃ b0 b1 b2 b3 b4 b5 : Bool, ∃ x46 x48 : Value, listed = #[b0, b1, b2, b3, b4, b5] ∧ act9 = { tmps := #[.slice a L.length c, .agg #[.int .i64 q.1, .int .i64 q.2], undef, .pointer (some ⟨g3, 0, none⟩), .bool false, .pointer (some ⟨g0, 0, none⟩), .pointer (some ⟨g6, 0, none⟩), .bool true, (cond b4 (x46) undef), (cond b5 (x48) undef), undef, undef, undef, undef, undef, undef, undef, undef, undef, .slice a L.length c, .slice (some ⟨W.heap.size, 0, none⟩) 1 1, .bool false, undef, .tuple #[.pointer (some ⟨g0, 0, none⟩), .agg (rsA m.mo ap Lr.length cp af m.F.length cf), .bool true], .slice a L.length c, .tuple #[.pointer (some ⟨g0, 0, none⟩), .agg (rsA m.mo ap Lr.length cp af m.F.length cf), .bool true], .pointer (some ⟨g0, 0, none⟩), .agg (rsA m.mo ap Lr.length cp af m.F.length cf), .bool true, .bool true, .bool false, .bool false, .pointer (some ⟨g0, 0, none⟩), .int .i64 (cntL m.P), .agg (rsA m.mo ap Lr.length cp af m.F.length cf), .int .i64 (cntL m.P), .bool false, .bool false, .bool false, .pointer (some ⟨g0, 0, none⟩), .int .i64 (sizL m.P), .agg (rsA m.mo ap Lr.length cp af m.F.length cf), .int .i64 (sizL m.P), .bool false, .bool false, (cond b0 (.pointer (some ⟨g0, 0, none⟩)) undef), x46, (cond b2 (.agg (rsA m.mo ap Lr.length cp af m.F.length cf)) undef), x48, undef, undef, undef, undef, undef, undef, undef, undef, undef, undef, undef, undef, undef, undef, undef, undef, undef, undef, undef, undef, undef, undef, undef, undef, undef, undef, undef, undef, undef, undef, undef, undef, undef, undef, undef, undef, undef, undef, undef, undef, undef, undef, undef, undef, undef, undef, undef, undef, undef, undef, undef, undef, undef, undef, undef, undef, undef, undef, undef, undef, undef, undef, undef, undef, undef, undef, undef, undef], defers := [] } ∧ K2C b1 b3 b4 b5 x46 x48 (hndL 0 m.P) V3 V) (by kernel_rfl) (by kernel_rfl) ?_ ?_ ?_
  ·exact ⟨false, false, false, false, false, false, undef, undef, rfl, rfl, h0⟩
  ·intro i9 listed act9 V hi9 hr hJ
   obtain ⟨b0, b1, b2, b3, b4, b5, x46, x48, rfl, rfl, hF⟩ := hJ
   have hi2 : i9 < 6 := hi9
   have hi3 : i9 = 0 ∨ i9 = 1 ∨ i9 = 2 ∨ i9 = 3 ∨ i9 = 4 ∨ i9 = 5 := by omega
   rcases hi3 with rfl | rfl | rfl | rfl | rfl | rfl
   ·obtain rfl : b0 = false := ready_self hr
    refine st_val rfl (by kernel_rfl) (some 45) rfl (.pointer (some ⟨g0, 0, none⟩)) V (by kernel_rfl) ?_
    exact ⟨true, b1, b2, b3, b4, b5, x46, x48, rfl, rfl, hF⟩
   ·obtain rfl : b1 = false := ready_self hr
    obtain rfl : b0 = true := ready_dep hr 0 (by kernel_rfl)
    obtain rfl := ffw hF.o4 rfl
    refine st_call rfl (by kernel_rfl) (some 46) rfl 15 #[.pointer (some ⟨g0, 0, none⟩)] (by kernel_rfl) ((q_han (HREP.out.below (HV3.out.trans (hF.bel.mono HV3.out.size))) HWM.out).mono ?_)
    intro e V9 hq9
    obtain ⟨v9, rfl, hs9, hb9⟩ := hq9.hs
    exact ⟨_, rfl, true, true, b2, b3, false, b5, _, _, rfl, rfl, ⟨(hF.below hb9).bel, fun _ => hs9, (hF.below hb9).c3, (fun e => nomatch e), hF.o5⟩⟩
   ·obtain rfl : b2 = false := ready_self hr
    refine st_load rfl (by kernel_rfl) (some 47) rfl 28 (.tmp 6) rfl ⟨g6, 0, none⟩ (.agg (rsA m.mo ap Lr.length cp af m.F.length cf)) (by kernel_rfl) (load_rs (HX6.out.below HX6.out.lt (HV3.out.trans (hF.bel.mono HV3.out.size)))) ?_
    exact ⟨b0, b1, true, b3, b4, b5, _, _, rfl, rfl, hF⟩
   ·obtain rfl : b3 = false := ready_self hr
    obtain rfl : b2 = true := ready_dep hr 2 (by kernel_rfl)
    obtain rfl := ffw hF.o5 rfl
    refine st_call rfl (by kernel_rfl) (some 48) rfl 16 #[.agg (rsA m.mo ap Lr.length cp af m.F.length cf)] (by kernel_rfl) ((r_han (HRM.out.below (HV3.out.trans (hF.bel.mono HV3.out.size))) HWM.out HU.out).mono ?_)
    intro e V9 hq9
    obtain ⟨v9, rfl, hs9, hb9⟩ := hq9.hs
    exact ⟨_, rfl, b0, b1, true, true, b4, false, _, _, rfl, rfl, ⟨(hF.below hb9).bel, (hF.below hb9).c1, fun _ => hs9, hF.o4, (fun e => nomatch e)⟩⟩
   ·obtain rfl : b4 = false := ready_self hr
    obtain rfl : b1 = true := ready_dep hr 1 (by kernel_rfl)
    refine st_val rfl (by kernel_rfl) (some 8) rfl x46 V (by kernel_rfl) ?_
    exact ⟨b0, true, b2, b3, true, b5, _, _, rfl, rfl, { hF with o4 := fun _ => rfl }⟩
   ·obtain rfl : b5 = false := ready_self hr
    obtain rfl : b3 = true := ready_dep hr 3 (by kernel_rfl)
    refine st_val rfl (by kernel_rfl) (some 9) rfl x48 V (by kernel_rfl) ?_
    exact ⟨b0, b1, b2, true, b4, true, _, _, rfl, rfl, { hF with o5 := fun _ => rfl }⟩
  ·intro act9 V hJ
   obtain ⟨b0, b1, b2, b3, b4, b5, x46, x48, he, rfl, hF⟩ := hJ
   have he : (#[true, true, true, true, true, true] : Array Bool) = #[b0, b1, b2, b3, b4, b5] := he
   simp only [Array.mk.injEq, List.cons.injEq, and_true] at he
   obtain ⟨rfl, rfl, rfl, rfl, rfl, rfl⟩ := he
   simp only [cond_true]
   obtain ⟨a8, c8, rfl, hc8⟩ := hF.c1 rfl
   obtain ⟨a9, c9, rfl, hc9⟩ := hF.c3 rfl
   have HV4 := Lib.hid (HV3.out.trans (hF.bel.mono HV3.out.size))
   have HC8 := Lib.hid hc8
   have HC9 := Lib.hid hc9
   have HNL : Hid ((hndL 0 m.P).length ≤ 512) := Lib.hid (by have := hnd_len 0 m.P; have := HWM.out.pl; omega)
   obtain ⟨H, hH⟩ : ∃ H, hndL 0 m.P = H := ⟨_, rfl⟩
   rw [hH] at HC8 HC9 HNL
   simp only [hH]
   clear hF hc8 hc9 HV3 hH
   generalize V = V4 at *
   go_upto_region 7 with fail
   refine wl <| gz4 (.slice a8 H.length c8) (.int .i64 H.length) (.slice a9 H.length c9) (.int .i64 H.length) <| gzb (neq_n rfl (H.length) (H.length) (decide_eq_false (fun h => h rfl))) <| wn ?_
   simp only [pu]
   go_upto_region 9 with fail
   refine wl <| gz3 (.slice a8 H.length c8) (.int .i64 H.length) (.int .i64 0) <| wn ?_
   simp only [pu]
   go_wp2_with fail
   go_loopg [56] H.length (fun gg s56 wx => ∃ (i : Nat), s56 = .int .i64 i ∧ i ≤ H.length ∧ gg + i = H.length ∧ Hid (Below V4.heap.size V4 wx))
   case atStart => exact ⟨0, rfl, by omega, by omega, Lib.hid (Below.refl _ _)⟩
   case round =>
    obtain ⟨i, rfl, hin, hg, HRR⟩ := hrel
    have HGK : Hid (gk + i = H.length) := Lib.hid hg
    clear hg
    by_cases hlt : i < H.length
    ·skip
     obtain ⟨b8, o8, e8, -, hr8⟩ := fl_range hnl hn_len (by omega) ((0 : Int), (0 : Int)) (HC8.out.below HRR.out) hlt
     obtain ⟨b9, o9, e9, -, hr9⟩ := fl_range hnl hn_len (by omega) ((0 : Int), (0 : Int)) (HC9.out.below HRR.out) hlt
     obtain rfl := e8
     obtain rfl := e9
     generalize H.getD i (0, 0) = p9 at *
     go_upto_region 10 with fail
     refine wl <| gzb (lss_n rfl (i) (H.length) dT) <| wn ?_
     simp only [pu]
     go_upto_region 11 with fail
     refine wl <| gz2 (.int .i64 i) (.int .i64 i) <| wn ?_
     simp only [pu]
     go_upto_region 12 with fail
     refine wp_region_class (C := fun U => Below wr.heap.size wr U) (by kernel_rfl) (by kernel_rfl) ((Below.refl _ wr).drew) ?_
     refine gy (.slice (some ⟨b8, o8, none⟩) H.length c8) <| gy (.int .i64 i) <| gyv (.pointer (some ⟨b8, o8 + i * 2, none⟩)) (fun U hU => idx_hn b8 o8 H.length c8 i hlt U _ _ rfl (by kernel_rfl) (by kernel_rfl)) <|
       gyl rfl ⟨b8, o8 + i * 2, none⟩ (.agg #[.int .i64 p9.1, .int .i64 p9.2]) (fun U hU => load_hn (rg_below hr8 hU)) <| gy (.slice (some ⟨b9, o9, none⟩) H.length c9) <| gy (.int .i64 i) <|
       gyv (.pointer (some ⟨b9, o9 + i * 2, none⟩)) (fun U hU => idx_hn b9 o9 H.length c9 i hlt U _ _ rfl (by kernel_rfl) (by kernel_rfl)) <| gyl rfl ⟨b9, o9 + i * 2, none⟩ (.agg #[.int .i64 p9.1, .int .i64 p9.2]) (fun U hU => load_hn (rg_below hr9 hU)) <|
       gyv (.bool false) (fun U hU => neq_hn rfl p9 (by kernel_rfl) (by kernel_rfl) U) ?_
     simp only [pu]
     apply wpQuiet_nil
     intro V5 hV5
     have HR5 := Lib.hid (HRR.out.trans (hV5.mono HRR.out.size))
     clear hV5 hr8 hr9 HRR
     go_upto_region 14 with fail
     refine wl <| gzv (.int .i64 (i + 1 : Nat)) (add_one rfl i (by have := HNL.out; omega) (by kernel_rfl) _) <| gz1 (.int .i64 (i + 1 : Nat)) <| wn ?_
     simp only [pu]
     go_wp2_with fail
     go_roundg (H.length - (i + 1))
     case measure => have := HGK.out; omega
     case rel => exact ⟨i + 1, rfl, by omega, by omega, HR5⟩
    ·skip
     obtain rfl : i = H.length := by omega
     go_upto_region 10 with fail
     refine wl <| gzb (lss_n rfl (H.length) (H.length) dF) <| wn ?_
     simp only [pu]
     have HV5 := Lib.hid (HV4.out.trans (HRR.out.mono HV4.out.size))
     have HC9 := Lib.hid (HC9.out.below HRR.out)
     clear HC8 HRR HGK hin hlt
     generalize wr = W5 at *
     have h0 := CJ.start (W := W5) (F := H) (q := q) (x0 := undef) (x1 := undef) (xk := undef) (x2 := undef)
     go_upto_region 15 with fail
     refine wp_region_inv (fun listed act9 V => ∃ b0 b1 b2 b3 b4 b5 b6 : Bool, ∃ x69 x71 x73 x74 : Value, listed = #[b0, b1, b2, b3, b4, b5, b6] ∧ act9 = { tmps := #[.slice a L.length c, .agg #[.int .i64 q.1, .int .i64 q.2], undef, .pointer (some ⟨g3, 0, none⟩), u4, .pointer (some ⟨g0, 0, none⟩), .pointer (some ⟨g6, 0, none⟩), .bool true, .slice a8 H.length c8, .slice a9 H.length c9, u10, (cond b6 (x74) undef), undef, undef, undef, undef, undef, undef, undef, .slice a L.length c, .slice (some ⟨W.heap.size, 0, none⟩) 1 1, .bool false, undef, .tuple #[.pointer (some ⟨g0, 0, none⟩), .agg (rsA m.mo ap Lr.length cp af m.F.length cf), .bool true], .slice a L.length c, .tuple #[.pointer (some ⟨g0, 0, none⟩), .agg (rsA m.mo ap Lr.length cp af m.F.length cf), .bool true], .pointer (some ⟨g0, 0, none⟩), .agg (rsA m.mo ap Lr.length cp af m.F.length cf), .bool true, .bool true, .bool false, .bool false, .pointer (some ⟨g0, 0, none⟩), .int .i64 (cntL m.P), .agg (rsA m.mo ap Lr.length cp af m.F.length cf), .int .i64 (cntL m.P), .bool false, .bool false, .bool false, .pointer (some ⟨g0, 0, none⟩), .int .i64 (sizL m.P), .agg (rsA m.mo ap Lr.length cp af m.F.length cf), .int .i64 (sizL m.P), .bool false, .bool false, .pointer (some ⟨g0, 0, none⟩), .slice a8 H.length c8, .agg (rsA m.mo ap Lr.length cp af m.F.length cf), .slice a9 H.length c9, .slice a8 H.length c8, .int .i64 H.length, .slice a9 H.length c9, .int .i64 H.length, .bool false, .slice a8 H.length c8, .int .i64 H.length, .int .i64 H.length, .bool false, u58, u59, u60, u61, u62, u63, u64, u65, u66, u67, u68, x69, (cond b1 (.slice a9 H.length c9) undef), x71, (cond b3 (.agg #[.int .i64 q.1, .int .i64 q.2]) undef), x73, x74, undef, undef, undef, undef, undef, undef, undef, undef, undef, undef, undef, undef, undef, undef, undef, undef, undef, undef, undef, undef, undef, undef, undef, undef, undef, undef, undef, undef, undef, undef, undef, undef, undef, undef, undef, undef, undef, undef, undef, undef, undef, undef], defers := [] } ∧ CJ W5 H q b0 b2 b4 b5 b6 x69 x71 x73 x74 V) (by kernel_rfl) (by kernel_rfl) ?_ ?_ ?_
     ·exact ⟨false, false, false, false, false, false, false, undef, undef, undef, undef, rfl, rfl, h0⟩
     ·intro i9 listed act9 V hi9 hr hJ
      obtain ⟨b0, b1, b2, b3, b4, b5, b6, x69, x71, x73, x74, rfl, rfl, hF⟩ := hJ
      have hi2 : i9 < 7 := hi9
      have hi3 : i9 = 0 ∨ i9 = 1 ∨ i9 = 2 ∨ i9 = 3 ∨ i9 = 4 ∨ i9 = 5 ∨ i9 = 6 := by omega
      rcases hi3 with rfl | rfl | rfl | rfl | rfl | rfl | rfl
      ·obtain rfl : b0 = false := ready_self hr
       obtain ⟨rfl, rfl, rfl⟩ := hF.n0
       refine st_build rfl (by kernel_rfl) (some 69) rfl 36 0 #[] rfl #[] (by kernel_rfl) (.slice (some ⟨V.heap.size, 0, none⟩) 0 0) _ (nil_hn V) ?_
       exact ⟨true, b1, false, b3, b4, false, false, _, _, _, _, rfl, rfl, hF.nil⟩
      ·obtain rfl : b1 = false := ready_self hr
       refine st_val rfl (by kernel_rfl) (some 70) rfl (.slice a9 H.length c9) V (by kernel_rfl) ?_
       exact ⟨b0, true, b2, b3, b4, b5, b6, x69, x71, x73, x74, rfl, rfl, hF⟩
      ·obtain rfl : b2 = false := ready_self hr
       obtain rfl : b0 = true := ready_dep hr 0 (by kernel_rfl)
       obtain rfl : b1 = true := ready_dep hr 1 (by kernel_rfl)
       obtain ⟨rfl, rfl⟩ := hF.n1
       obtain ⟨v9, V9, hap9, hO9, hb9, hg9, hat9⟩ := app_hn (hF.r0 rfl rfl) hF.bel.size a9 H.length c9 H (HC9.out.below hF.bel) rfl (by simp) (by have := HNL.out; omega)
       refine st_append rfl (by kernel_rfl) (some 71) rfl 36 rfl (.tmp 69) (.tmp 70) 36 rfl x69 (.slice a9 H.length c9) v9 V9 (by kernel_rfl) (by kernel_rfl) hap9 ?_
       exact ⟨true, true, true, b3, b4, false, false, _, _, _, _, rfl, rfl, hF.one (by simpa using hO9) hb9 hg9 hat9⟩
      ·obtain rfl : b3 = false := ready_self hr
       refine st_load rfl (by kernel_rfl) (some 72) rfl 33 (.tmp 3) rfl ⟨g3, 0, none⟩ (.agg #[.int .i64 q.1, .int .i64 q.2]) (by kernel_rfl) (load_hn (x := q) (bx_range (cs := hnl q) (HX3.out.below HX3.out.lt (HV5.out.trans (hF.bel.mono HV5.out.size))))) ?_
       exact ⟨b0, b1, b2, true, b4, b5, b6, _, _, _, _, rfl, rfl, hF⟩
      ·obtain rfl : b4 = false := ready_self hr
       obtain rfl : b3 = true := ready_dep hr 3 (by kernel_rfl)
       refine st_build rfl (by kernel_rfl) (some 73) rfl 36 1 #[(0, .tmp 72)] rfl #[(0, .agg (hnA q))] (by kernel_rfl) (.slice (some ⟨V.heap.size, 0, none⟩) 1 1) _ (build_hn q V) ?_
       exact ⟨b0, b1, b2, true, true, b5, b6, _, _, _, _, rfl, rfl, hF.key⟩
      ·obtain rfl : b5 = false := ready_self hr
       obtain rfl : b2 = true := ready_dep hr 2 (by kernel_rfl)
       obtain rfl : b4 = true := ready_dep hr 4 (by kernel_rfl)
       obtain rfl := hF.n2
       obtain ⟨gk9, rfl, hxk, -, -⟩ := hF.kx rfl
       obtain ⟨v9, V9, hap9, hO9, hb9, hg9, hat9⟩ := app_hn (hF.r1 rfl rfl) hF.bel.size (some ⟨gk9, 0, none⟩) 1 1 [q] (Cs.block (cs := hcs [q]) hxk) rfl (by have := HNL.out; omega) (by omega)
       refine st_append rfl (by kernel_rfl) (some 74) rfl 36 rfl (.tmp 71) (.tmp 73) 36 rfl x71 (.slice (some ⟨gk9, 0, none⟩) 1 1) v9 V9 (by kernel_rfl) (by kernel_rfl) hap9 ?_
       exact ⟨b0, b1, true, b3, true, true, false, _, _, _, _, rfl, rfl, hF.two hO9 hb9 hg9 hat9⟩
      ·obtain rfl : b6 = false := ready_self hr
       obtain rfl : b5 = true := ready_dep hr 5 (by kernel_rfl)
       refine st_val rfl (by kernel_rfl) (some 11) rfl x74 V (by kernel_rfl) ?_
       exact ⟨b0, b1, b2, b3, b4, true, true, _, _, _, _, rfl, rfl, hF.s6⟩
     ·intro act9 V hJ
      obtain ⟨b0, b1, b2, b3, b4, b5, b6, x69, x71, x73, x74, he, rfl, hF⟩ := hJ
      have he : (#[true, true, true, true, true, true, true] : Array Bool) = #[b0, b1, b2, b3, b4, b5, b6] := he
      simp only [Array.mk.injEq, List.cons.injEq, and_true] at he
      obtain ⟨rfl, rfl, rfl, rfl, rfl, rfl, rfl⟩ := he
      simp only [cond_true]
      have hO := hF.r2 rfl
      obtain ⟨a11, c11, rfl, -, -⟩ := hO.cs
      have HV6 := Lib.hid hF.bel
      obtain ⟨M0, hM0⟩ : ∃ M, H ++ [q] = M := ⟨_, rfl⟩
      rw [hM0] at hO
      simp only [hM0]
      have HM0 : Hid (M0.length ≤ 520) := Lib.hid (by rw [← hM0, List.length_append]; have := HNL.out; show H.length + 1 ≤ 520; omega)
      have HO : Hid (RowH V W5.heap.size (.slice a11 M0.length c11) M0) := Lib.hid hO
      clear hF hO hM0
      generalize V = V6 at *
      go_upto_region 16 with fail
      refine wl <| gz1 (.int .i64 (-1)) <| wn ?_
      simp only [pu]
      go_wp2_with fail
      go_loopg [11, 12] 10 (fun gg s11 s12 wx => ∃ (y : Int) (M : List (Int × Int)) (a2 : Option Addr) (c2 : Nat), s12 = .int .i64 y ∧ s11 = .slice a2 M.length c2 ∧ -1 ≤ y ∧ y ≤ 9 ∧ (gg : Int) + y = 9 ∧ Hid ((M.length : Int) ≤ 520 + 3 * (y + 1)) ∧ Hid (RowH wx W5.heap.size (.slice a2 M.length c2) M) ∧ Hid (Below W5.heap.size W5 wx))
      case atStart => exact ⟨-1, M0, a11, c11, rfl, rfl, by omega, by omega, by omega, Lib.hid (by have := HM0.out; omega), HO, HV6⟩
      case round =>
       obtain ⟨y, M, a2, c2, rfl, rfl, hy1, hy2, hg, HML, HRW, HRR⟩ := hrel
       clear HO HM0 HV6
       have HGK : Hid ((gk : Int) + y = 9) := Lib.hid hg
       clear hg
       by_cases hlt : y < 9
       ·skip
        go_upto_region 17 with fail
        refine wl <| gz1 (.int .i64 y) <| gzb (lss_n rfl (y) (9) dT) <| wn ?_
        simp only [pu]
        have hrow := HRW.out
        have hB := HRR.out.size
        have hbd := build_h3 (y, 0) (y, 1) (y, -1) wr
        have hb1 : Below wr.heap.size wr (wr.alloc (.cells (hcs [(y, 0), (y, 1), (y, -1)]).toArray 33)) := (Below.refl _ wr).alloc (Nat.le_refl _) _
        have hXb : Bx (wr.alloc (.cells (hcs [(y, 0), (y, 1), (y, -1)]).toArray 33)) wr.heap.size (hcs [(y, 0), (y, 1), (y, -1)]).toArray 33 := heap_alloc_last wr _
        obtain ⟨VA, hVA⟩ : ∃ X, wr.alloc (.cells (hcs [(y, 0), (y, 1), (y, -1)]).toArray 33) = X := ⟨_, rfl⟩
        rw [hVA] at hbd hb1 hXb
        obtain ⟨v7, V7, hap7, hO7, hb7, -, -⟩ := app_hn (hrow.below hb1) (Nat.le_trans hB hb1.size) (some ⟨wr.heap.size, 0, none⟩) 3 3 [(y, 0), (y, 1), (y, -1)] (Cs.block hXb) rfl (by have := HML.out; omega) (by omega)
        obtain ⟨a7, c7, rfl, -, -⟩ := hO7.cs
        have HR7 : Hid (RowH V7 W5.heap.size (.slice a7 (M ++ [(y, 0), (y, 1), (y, -1)]).length c7) (M ++ [(y, 0), (y, 1), (y, -1)])) := Lib.hid hO7
        have HML7 : Hid (((M ++ [(y, 0), (y, 1), (y, -1)]).length : Int) ≤ 520 + 3 * (y + 1 + 1)) := Lib.hid (by rw [List.length_append]; have := HML.out; show ((M.length + 3 : Nat) : Int) ≤ _; omega)
        have HBV : Hid (Below W5.heap.size W5 V7) := Lib.hid ((HRR.out.trans (hb1.mono hB)).trans hb7)
        clear hrow hB hb1 hXb hO7 hb7 HRW HRR hVA
        go_upto_region 19 with fail
        refine wl <| gz6 (.slice a2 M.length c2) (.int .i64 y) (.agg (hnA (y, 0))) (.int .i64 y) (.agg (hnA (y, 1))) (.int .i64 y) <| gz1 (.agg (hnA (y, -1))) ?_
        simp only [pu]
        refine gw_build (by kernel_rfl) (some 86) rfl 36 3 #[(0, .tmp 81), (1, .tmp 83), (2, .tmp 85)] rfl #[(0, .agg (hnA (y, 0))), (1, .agg (hnA (y, 1))), (2, .agg (hnA (y, -1)))] (by kernel_rfl) (.slice (some ⟨wr.heap.size, 0, none⟩) 3 3) _ hbd ?_
        simp only [pu]
        refine append_step rfl (some 87) rfl 36 rfl (.tmp 79) (.tmp 86) 36 rfl (.slice a2 M.length c2) (.slice (some ⟨wr.heap.size, 0, none⟩) 3 3) (.slice a7 (M ++ [(y, 0), (y, 1), (y, -1)]).length c7) V7 (by kernel_rfl) (by kernel_rfl) hap7 ?_
        simp only [pu]
        refine gz1 (.slice a7 (M ++ [(y, 0), (y, 1), (y, -1)]).length c7) <| wn ?_
        simp only [pu]
        clear hbd hap7
        go_upto_region 18 with fail
        refine wl <| gz1 (.int .i64 y) <| gzw (.int .i64 (y + 1)) (add_i rfl y 1 (by omega)) <| gz1 (.int .i64 (y + 1)) <| wn ?_
        simp only [pu]
        go_wp2_with fail
        go_roundg (9 - (y + 1)).toNat
        case measure => have := HGK.out; omega
        case rel => exact ⟨y + 1, _, a7, c7, rfl, rfl, by omega, by omega, by omega, HML7, HR7, HBV⟩
       ·skip
        obtain rfl : y = 9 := by omega
        have HV7 := Lib.hid (HV5.out.trans (HRR.out.mono HV5.out.size))
        have HCM : Hid (Cs wr a2 (hcs M)) := Lib.hid (own_nc HRW.out).1
        have HMN : Hid (M.length ≤ 600) := Lib.hid (by have := HML.out; omega)
        go_upto_region 17 with fail
        refine wl <| gz1 (.int .i64 9) <| gzb (lss_n rfl (9) (9) (decide_eq_false (by decide))) <| wn ?_
        simp only [pu]
        clear HRW HRR HML HV5 HGK hy1 hy2 hlt
        go_upto_region 20 with fail
        refine wl <| gz3 (.slice a2 M.length c2) (.int .i64 M.length) (.int .i64 0) <| wn ?_
        simp only [pu]
        generalize wr = wR at *
        go_wp2_with fail
        go_loopg [90] M.length (fun gg s90 wx => ∃ (i : Nat), s90 = .int .i64 i ∧ i ≤ M.length ∧ gg + i = M.length ∧ Hid (Below wR.heap.size wR wx))
        case atStart => exact ⟨0, rfl, by omega, by omega, Lib.hid (Below.refl _ _)⟩
        case round =>
         obtain ⟨i, rfl, hin, hg, HRR⟩ := hrel
         have HGK : Hid (gk + i = M.length) := Lib.hid hg
         clear hg
         by_cases hlt : i < M.length
         ·skip
          obtain ⟨b, off, e8, -, hrg⟩ := fl_range hnl hn_len (by omega) ((0 : Int), (0 : Int)) (HCM.out.below HRR.out) hlt
          obtain rfl := e8
          generalize M.getD i (0, 0) = p9 at *
          obtain ⟨V8, hst8, hb8, hX14⟩ := new_bx (c := #[.int .i64 0, .int .i64 0]) (c' := #[.int .i64 p9.1, .int .i64 p9.2]) (ty := 33) wr rfl (by simp [Value.oneCell']) (by kernel_rfl)
          have HV8 := Lib.hid (HRR.out.trans (hb8.mono HRR.out.size))
          obtain ⟨g14, hg14⟩ : ∃ g, wr.heap.size = g := ⟨_, rfl⟩
          go_upto_region 21 with fail
          refine wl <| gzb (lss_n rfl (i) (M.length) dT) <| wn ?_
          simp only [pu]
          go_upto_region 22 with fail
          refine wl <| gzv (.pointer (some ⟨b, off + i * 2, none⟩)) (idx_hn b off M.length c2 i hlt _ _ _ rfl (by kernel_rfl) (by kernel_rfl)) <| gzl rfl ⟨b, off + i * 2, none⟩ (.agg #[.int .i64 p9.1, .int .i64 p9.2]) (load_hn hrg) ?_
          simp only [pu]
          refine run_to rfl (some 14) rfl (.pointer (some ⟨wr.heap.size, 0, none⟩)) (wr.alloc (.cells (#[.int .i64 0, .int .i64 0]) 33)) (by kernel_rfl) ?_
          simp only [pu]
          refine gzs rfl (hst8) <| wn ?_
          rw [hg14] at hX14 ⊢
          clear hst8 hb8 hg14 hrg HRR
          have hv8 := HV7.out.trans (HV8.out.mono HV7.out.size)
          have CG := q_get p9 (HREP.out.below hv8) HWM.out
          have HVV8 := Lib.hid hv8
          clear hv8
          go_upto_region 23 with fail
          refine wl <| gz1 (.pointer (some ⟨g0, 0, none⟩)) <| gzl rfl ⟨g14, 0, none⟩ (.agg #[.int .i64 p9.1, .int .i64 p9.2]) (load_hn (x := p9) (bx_range (cs := hnl p9) hX14)) <|
           gze (fun v w' => ∃ d, v = .tuple #[.agg (enA (getS m p9) d), .bool (valS m p9)] ∧ EnI w' (getS m p9) d ∧ Below V8.heap.size V8 w') (CG.mono fun r w' z => by obtain ⟨d, z1, z2, z3⟩ := z; exact ⟨_, z1, d, rfl, z2.i, z3⟩) (fun vv V9 hq => ?_)
          obtain ⟨d1, rfl, hi1, hb9⟩ := hq
          obtain ⟨V10, hst10, hb10, hX15⟩ := new_bx (c := enA zEn zAd) (c' := enA (getS m p9) d1) (ty := 44) V9 rfl (enA_one _ _) (by kernel_rfl)
          simp only [pu]
          refine gz3 (.tuple #[.agg (enA (getS m p9) d1), .bool (valS m p9)]) (.agg (enA (getS m p9) d1)) (.bool (valS m p9)) ?_
          simp only [pu]
          refine run_to rfl (some 15) rfl (.pointer (some ⟨V9.heap.size, 0, none⟩)) (V9.alloc (.cells (enA zEn zAd) 44)) (by kernel_rfl) ?_
          simp only [pu]
          refine gzs rfl (hst10) <| gz1 (.bool (valS m p9)) <| wn ?_
          simp only [pu]
          have hb810 := hb9.trans (hb10.mono hb9.size)
          have HV10 := Lib.hid (HVV8.out.trans (hb810.mono HVV8.out.size))
          have HR10 := Lib.hid (HV8.out.trans (hb810.mono HV8.out.size))
          have hI1 := hi1.below hb10
          have hX14 := hX14.below hX14.lt hb810
          obtain ⟨g15, hg15⟩ : ∃ g, V9.heap.size = g := ⟨_, rfl⟩
          rw [hg15] at hX15 ⊢
          clear hst10 hb10 hb9 hb810 hi1 hg15 CG HV8 HVV8
          have CRG := r_get p9 (HRM.out.below HV10.out) HWM.out HU.out
          go_upto_region 24 with fail
          refine wl <| gzl rfl ⟨g6, 0, none⟩ (.agg (rsA m.mo ap Lr.length cp af m.F.length cf)) (load_rs (HX6.out.below HX6.out.lt HV10.out)) <| gzl rfl ⟨g14, 0, none⟩ (.agg #[.int .i64 p9.1, .int .i64 p9.2]) (load_hn (x := p9) (bx_range (cs := hnl p9) hX14)) <|
           gze (fun v w' => ∃ d, v = .tuple #[.agg (enA (getS m p9) d), .bool (valS m p9)] ∧ EnI w' (getS m p9) d ∧ Below V10.heap.size V10 w') (CRG.mono fun r w' z => by obtain ⟨d, z1, z2, z3, z4⟩ := z; exact ⟨_, z1, d, rfl, z2, z4⟩) (fun vv V11 hq => ?_)
          obtain ⟨d2, rfl, hi2, hb11⟩ := hq
          obtain ⟨V12, hst12, hb12, hX17⟩ := new_bx (c := enA zEn zAd) (c' := enA (getS m p9) d2) (ty := 44) V11 rfl (enA_one _ _) (by kernel_rfl)
          simp only [pu]
          refine gz3 (.tuple #[.agg (enA (getS m p9) d2), .bool (valS m p9)]) (.agg (enA (getS m p9) d2)) (.bool (valS m p9)) ?_
          simp only [pu]
          refine run_to rfl (some 17) rfl (.pointer (some ⟨V11.heap.size, 0, none⟩)) (V11.alloc (.cells (enA zEn zAd) 44)) (by kernel_rfl) ?_
          simp only [pu]
          refine gzs rfl (hst12) <| gz1 (.bool (valS m p9)) <| wn ?_
          simp only [pu]
          have hb1012 := hb11.trans (hb12.mono hb11.size)
          have HR12 := Lib.hid (HR10.out.trans (hb1012.mono HR10.out.size))
          have hI2 := hi2.below hb12
          have hI1 := hI1.below hb1012
          have hX15 := hX15.below hX15.lt hb1012
          obtain ⟨g17, hg17⟩ : ∃ g, V11.heap.size = g := ⟨_, rfl⟩
          rw [hg17] at hX17 ⊢
          clear hst12 hb12 hb11 hb1012 hi2 hg17 CRG HR10 HV10 hX14
          have CS := r_same hI1 hI2 (getS_b HWM.out p9)
          go_upto_region 25 with fail
          refine wl <| gz2 (.bool (valS m p9)) (.bool (valS m p9)) <| gzw (.bool false) (neq_b rfl (valS m p9)) <| gz1 (.bool false) <| gzl rfl ⟨g15, 0, none⟩ (.agg (enA (getS m p9) d1)) (load_en (bx_range hX15)) <|
           gzl rfl ⟨g17, 0, none⟩ (.agg (enA (getS m p9) d2)) (load_en (bx_range hX17)) <| gzc (.bool true) (fun w' => Below V12.heap.size V12 w') (CS) (fun V13 hb13 => ?_)
          simp only [pu]
          refine gz2 (.bool false) (.bool false) <| wn ?_
          simp only [pu]
          have HR13 := Lib.hid (HR12.out.trans (hb13.mono HR12.out.size))
          clear hb13 hX15 hX17 hI1 hI2 CS HR12
          go_upto_region 27 with fail
          refine wl <| gzv (.int .i64 (i + 1 : Nat)) (add_one rfl i (by have := HMN.out; omega) (by kernel_rfl) _) <| gz1 (.int .i64 (i + 1 : Nat)) <| wn ?_
          simp only [pu]
          go_wp2_with fail
          go_roundg (M.length - (i + 1))
          case measure => have := HGK.out; omega
          case rel => exact ⟨i + 1, rfl, by omega, by omega, HR13⟩
         ·skip
          obtain rfl : i = M.length := by omega
          go_upto_region 21 with fail
          refine wl <| gzb (lss_n rfl (M.length) (M.length) dF) <| wn ?_
          simp only [pu]
          have HE := Lib.hid (HB2.out.trans ((HV7.out.trans (HRR.out.mono HV7.out.size)).mono HB2.out.size))
          have CK := known_true wr
          go_upto_region 28 with fail
          refine wl <| gzc (.bool true) (fun w' => Below wr.heap.size wr w') (CK) (fun V13 hV13 => ?_)
          simp only [pu]
          refine gz1 (.bool true) <| wn ?_
          simp only [pu]
          have HE2 := HE.out.trans (hV13.mono HE.out.size)
          go_wp2_with fail
          go_ret
          exact ⟨rfl, HE2⟩
end Go.Proofs.Ytmpajgaanghpoaa
