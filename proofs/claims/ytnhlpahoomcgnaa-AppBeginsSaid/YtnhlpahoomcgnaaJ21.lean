/-
  Texts WN WL PB joined.
-/
import Derived.Test.YtnhlpahoomcgnaaJ20
import Derived.Test.YtnhlpahoomcgnaaJ9
import Derived.Test.YtnhlpahoomcgnaaJ1
import Derived.Test.YtnhlpahoomcgnaaRows
import Derived.ProofKit
import Derived.OpenShut
import Derived.ChangeOld
import Derived.Below
import Derived.SizedLaws
import Derived.Deep.Strs
import Derived.Deep.Slices
set_option maxRecDepth 100000
set_option maxHeartbeats 8000000
set_option linter.unusedSimpArgs false
set_option linter.unusedVariables false
namespace Go.Proofs.Ytnhlpahoomcgnaa.Lg
attribute [local irreducible] wpList wpQuiet
open Mo (Zd Zm YL YU)
open Go.RowKit
theorem zD {ρ : Operand → Value} {o : Oper} {x y : Operand} (ho : o.op = .binOp .lss 3 x y 3) (a b : Int) (hx : ρ x = Z8 a) (hy : ρ y = Z8 b) (w : World) : (execOp ρ o).run Try.prog w = .ok (.value (.bool (decide (a < b)))) w := by
 unfold execOp
 simp only [ho, hx, hy]
 go_simp
theorem GL (a : Option Addr) (k : Nat) (A : List Ac) (w : World) (hR : Cs w a (acc A)) (hn : A.length ≤ 4398046511104) :
  Calls Try.prog 6 #[.slice a A.length k] w fun e w' => (∃ bq, e = .returned (.bool bq)) ∧ Below w.heap.size w w' := by
 have HA := Z9 hR
 obtain ⟨n, hnn⟩ := ZR A.length
 have HN := Z9 hnn
 have TI : Hid (n ≤ 4398046511104) := Z9 (by omega)
 rw [hnn]
 clear hR hn hnn
 go_enter Try.func6, Try.ntmps6
 go_upto_region 1 with fail
 refine wl <| YT (.slice a n k) (Z8 n) (Z8 n) <| wn ?_
 simp only [pu]
 go_upto_region 2 with fail
 refine wl <| YT (.slice a n k) (Z8 n) (Z8 0) <| wn ?_
 simp only [pu]
 go_wp2_with fail
 go_loopg [3, 10] n (fun gg s3 s10 wx => ∃ (j : Nat) (S : Int), s3 = Z8 S ∧ s10 = Z8 j ∧ j ≤ n ∧ Hid (Below w.heap.size w wx) ∧ n - j = gg)
 case atStart => exact ⟨0, n, rfl, rfl, by omega, Z9 (Below.refl _ w), by omega⟩
 case round =>
  obtain ⟨j, S, rfl, rfl, hj, HB, hg⟩ := hrel
  have EO := TI.out
  by_cases hlt : j < n
  ·obtain ⟨b, off, rfl, -, hrx⟩ := YS (HA.out.below HB.out) (k := j) (by rw [HN.out]; exact hlt)
   have Y0 := Z9 (Ym hrx)
   generalize aca A j = y at *
   have HG := Z9 hg
   obtain ⟨V2, hst, hb2, hbx⟩ := WW wr y
   have HB3 := Z9 (HB.out.trans (hb2.mono HB.out.size))
   clear hrx hg hb2
   go_upto_region 3 with fail
   refine wl <| ZM (ZC rfl (j) (n) dT) <| wn ?_
   simp only [pu]
   go_upto_region 4 with fail
   refine wl <| YO (Z5 b (off + j * 3)) (YR b off n k j hlt _ _ _ rfl (by kernel_rfl) (by kernel_rfl)) <| ZI rfl ⟨b, off + j * 3, none⟩ (.agg (ZA y)) (Y0.out) ?_
   simp only [pu]
   refine Zz rfl (some 5) rfl (Z5 wr.heap.size 0) (wr.alloc (.cells (ZA Xg) 49)) (by kernel_rfl) ?_
   simp only [pu]
   refine Zt rfl (hst) <| wn ?_
   obtain ⟨g4, hg4⟩ := ZR wr.heap.size
   rw [hg4] at hbx ⊢
   clear hst hg4 Y0
   go_upto_region 5 with fail
   refine wl <| ZG (Z8 S) (Z5 g4 0) <| ZI rfl ⟨g4, 0, none⟩ (.string y.1) (hbx.ZN 0) <| ZV (Z8 (y.1.size : Nat)) <|
    YN (Z8 (IntKind.i64.wrap (S + (y.1.size : Nat)))) (sN rfl S (y.1.size : Nat)) <| ZV (Z8 (IntKind.i64.wrap (S + (y.1.size : Nat)))) <| wn ?_
   simp only [pu]
   clear hbx
   go_upto_region 6 with fail
   refine wl <| YN (Z8 (j + 1 : Nat)) (ZK rfl j 1 (by omega)) <| ZV (Z8 (j + 1 : Nat)) <| wn ?_
   simp only [pu]
   go_wp2_with fail
   go_roundg (n - (j + 1))
   case measure => have := HG.out; omega
   case rel => exact ⟨j + 1, _, rfl, rfl, hlt, HB3, rfl⟩
  ·obtain rfl : n = j := by omega
   clear hg
   go_upto_region 3 with fail
   refine wl <| ZM (ZC rfl (n) (n) dF) <| wn ?_
   simp only [pu]
   go_upto_region 7 with fail
   refine wl <| ZV (Z8 S) <| YN (.bool (decide (S < 200))) (zD rfl S 200) <| ZV (.bool (decide (S < 200))) <| wn ?_
   simp only [pu]
   go_wp2_with fail
   go_ret
   exact ⟨⟨_, rfl⟩, HB.out⟩
theorem WL.Xo {A : List Ac} {p : Int} (hw : Xz A) (hp : W64 p) : WL (Xo A p).1 := by
 unfold Lg.Xo
 split
 ·rename_i h
  exact WL.ini (ML.d ⟨(OA h).1, JX hw, X0⟩) hp
 ·exact WL.z
theorem sK : (Try.prog.info? 22).map (fun i => (i.zero, i.size, i.bytes)) = some (some (.slice none 0 0), 1, 24) := by kernel_rfl
theorem EN (a b : Option Addr) (n m c d : Nat) (V : World) : (Instr.buildSlice 31 2 #[(0, .slice a n c), (1, .slice b m d)]).run Try.prog V = .ok (.slice (some ⟨V.heap.size, 0, none⟩) 2 2) (V.alloc (.cells #[.slice a n c, .slice b m d] 22)) := by
 obtain ⟨i0, hi, hz0, hz1, hz2⟩ := info_parts sK
 refine run_buildSlice V 31 22 2 _ #[.slice a n c, .slice b m d] i0 _ Try.underlying31 hi hz0 (by rw [hz1]; omega) (by rw [hz1]; omega) ?_
 rw [hz1]
 kernel_rfl
theorem sJ (b n c k : Nat) (hk : k < n) (V : World) (ρ : Operand → Value) (o : Oper) {x y : Operand} (ho : o.op = .indexAddr 31 x y) (hx : ρ x = .slice (some ⟨b, 0, none⟩) n c) (hy : ρ y = Z8 k) : (execOp ρ o).run Try.prog V = .ok (.value (Z5 b k)) V := by
 have hs : (sizeOf (Try.prog.elem 31)).run Try.prog V = .ok 1 V := by kernel_rfl
 have hlm : (k : Int) < (n : Int) := by omega
 unfold execOp
 simp only [ho, hx, hy]
 go_simp
structure mQ (W : World) (a : Option Addr) (A : List Ac) : Prop where
 cs : Cs W a (acc A)
 l : A.length ≤ 4398046511104
 w : Xz A
 z : ∀ x, x ∈ A → x.1.size ≤ 140737488355328
theorem mQ.below {W V : World} {a : Option Addr} {A : List Ac} (h : mQ W a A) (hb : Below W.heap.size W V) : mQ V a A := ⟨h.cs.below hb, h.l, h.w, h.z⟩
theorem MK (la ak : Option Addr) (lk ck : Nat) (A : List Ac) (p : Int) (L : List Int) (w : World) (hla : Cs w la (acc A)) (hn : A.length * 32 ≤ 140737488351232) (haw : Xz A) (haz : ∀ x, x ∈ A → x.1.size ≤ 140737488355328) (hp : W64 p) (hl : L.length ≤ 9223372036854775807) (hk : Cs w ak (XO L)) :
  Calls Try.prog 3 #[.slice la A.length lk, Z7 p, .slice ak L.length ck] w fun e w' => e = .returned Z4 ∧ Below w.heap.size w w' := by
 have HK := Z9 (fun (V : World) (h : Below w.heap.size w V) => (QH V).mono fun e w' (q : e = .returned Z4 ∧ Below V.heap.size V w') => (⟨q.1, h.trans (q.2.mono h.size)⟩ : e = .returned Z4 ∧ Below w.heap.size w w'))
 have TI := Z9 hl
 have HCK := Z9 hk
 have bn : Hid (mQ w la A) := Z9 ⟨hla, by omega, haw, haz⟩
 have mP := Z9 hp
 have HAB : Hid (L ≠ [] → ∀ x, ak = some x → x.block < w.heap.size) := Z9 fun hne x hx => Oz hk (by cases L with | nil => exact absurd rfl hne | cons y r => simp [XO]) x hx
 clear hl hk hla hn haw haz hp
 go_enter Try.func3, Try.ntmps3
 go_upto_region 1 with fail
 have mO := EM w.heap.size ak L.length ck (w.alloc (.cells #[.slice ak L.length ck] 24)) (heap_alloc_last w _) TI.out
 have hor := one_row ak L.length ck w
 have hb1 : Below w.heap.size w (w.alloc (.cells #[.slice ak L.length ck] 24)) := (Below.refl _ w).alloc (Nat.le_refl _) _
 have ae2 := Z9 (HCK.out.below hb1)
 generalize w.alloc (.cells #[.slice ak L.length ck] 24) = W1 at *
 have HB1 := Z9 hb1
 clear hb1
 by_cases hL : 160 < L.length
 ·rw [decide_eq_true (by omega)] at mO
  refine wl <| ZV (.slice ak L.length ck) ?_
  simp only [pu]
  refine Zh (by kernel_rfl) (some 14) rfl 47 1 #[(0, .tmp 13)] rfl #[(0, .slice ak L.length ck)] (by kernel_rfl) (.slice (some ⟨w.heap.size, 0, none⟩) 1 1) _ hor ?_
  simp only [pu]
  refine Y2 Z4 (fun w' => W1 = w') mO (fun W2 hW => ?_)
  subst hW
  simp only [pu]
  refine Sz Z4 undef undef undef Z4 <| wn ?_
  simp only [pu]
  clear mO hor
  go_upto_region 2 with fail
  refine wl <| Y2 Z4 (fun w' => Below w.heap.size w w') (HK.out W1 (HB1.out)) (fun V9 XQ => ?_)
  simp only [pu]
  refine ZV Z4 <| wn ?_
  simp only [pu]
  have HE := Z9 XQ
  clear XQ
  go_wp2_with fail
  go_ret
  exact ⟨rfl, HE.out⟩
 rw [decide_eq_false (by omega)] at mO
 have CS := GL la lk A W1 (bn.out.cs.below HB1.out) bn.out.l
 refine wl <| ZV (.slice ak L.length ck) ?_
 simp only [pu]
 refine Zh (by kernel_rfl) (some 14) rfl 47 1 #[(0, .tmp 13)] rfl #[(0, .slice ak L.length ck)] (by kernel_rfl) (.slice (some ⟨w.heap.size, 0, none⟩) 1 1) _ hor ?_
 simp only [pu]
 refine Y2 ZY (fun w' => W1 = w') mO (fun W2 hW => ?_)
 subst hW
 simp only [pu]
 refine ZG ZY (.slice la A.length lk) <| Yl (fun v w' => ∃ bq, v = .bool bq ∧ Below W1.heap.size W1 w') (CS.mono fun e w' q => by obtain ⟨⟨bq, h1⟩, h2⟩ := q; exact ⟨_, h1, bq, rfl, h2⟩) (fun vv V2 hq => ?_)
 obtain ⟨bq, rfl, hb2⟩ := hq
 have HB2 := Z9 (HB1.out.trans (hb2.mono HB1.out.size))
 clear hb2
 simp only [pu]
 refine ZG (.bool (!bq)) (.bool (!bq)) <| wn ?_
 simp only [pu]
 clear mO hor
 clear CS
 cases bq
 ·simp only [Bool.not_false]
  go_upto_region 2 with fail
  refine wl <| Y2 Z4 (fun w' => Below w.heap.size w w') (HK.out V2 (HB2.out)) (fun V9 XQ => ?_)
  simp only [pu]
  refine ZV Z4 <| wn ?_
  simp only [pu]
  have HE := Z9 XQ
  clear XQ
  go_wp2_with fail
  go_ret
  exact ⟨rfl, HE.out⟩
 ·simp only [Bool.not_true]
  have CF := zC ak L.length ck V2
  have hb3 : Below V2.heap.size V2 (V2.alloc (.cells #[.slice ak L.length ck, Z8 0] 69)) := (Below.refl _ V2).alloc (Nat.le_refl _) _
  have Vt : Bx (V2.alloc (.cells #[.slice ak L.length ck, Z8 0] 69)) V2.heap.size #[.slice ak L.length ck, Z8 0] 69 := heap_alloc_last V2 _
  have hns : NS (V2.alloc (.cells #[.slice ak L.length ck, Z8 0] 69)) V2.heap.size ak ck L 0 := ⟨0, Nat.le_refl _, Vt, (HCK.out.below HB2.out).below hb3, fun hne x hx => by have := HAB.out hne x hx; have := HB2.out.size; omega⟩
  obtain ⟨gs, hgs⟩ := ZR V2.heap.size
  have HGS : Hid (w.heap.size ≤ gs) := Z9 (by have := HB2.out.size; omega)
  rw [hgs] at CF hns
  generalize V2.alloc (.cells #[.slice ak L.length ck, Z8 0] 69) = V3 at *
  have CA := MJ hns (by omega) (by omega)
  have HB3 := Z9 (HB2.out.trans (hb3.mono HB2.out.size))
  clear hb3 Vt hgs
  go_upto_region 3 with fail
  refine wl <| ZG (.slice la A.length lk) (.slice ak L.length ck) <| Y2 (Z5 gs 0) (fun w' => w' = V3) CF (fun V9 XQ => ?_)
  subst XQ
  simp only [pu]
  refine Yl (fun v w' => ∃ ra rc A1, v = .slice ra (List.length A1) rc ∧ ZB w' V9.heap.size (.slice ra A1.length rc) A1 ∧ (∀ x, x ∈ A1 → mM x) ∧ A1.length ≤ 4 ∧ But gs V9 w') (CA.mono fun e w' q => by obtain ⟨ra, rc, A1, h1, h2, h3, h4, -, h6⟩ := q; exact ⟨_, h1, ra, rc, A1, rfl, h2, h3, h4, h6⟩) (fun vv V4 hq => ?_)
  obtain ⟨ra, rc, A1, rfl, hrow, bg, hA4, hbt⟩ := hq
  obtain ⟨a9, c9, e9, hcs, -⟩ := hrow.cs
  obtain ⟨rfl, -, rfl⟩ := by simpa only [Value.slice.injEq] using e9
  have hb4 := HB3.out.trans (hbt.1.mono HGS.out)
  have hbu := EN la ra A.length A1.length lk rc V4
  have hb5 : Below V4.heap.size V4 (V4.alloc (.cells #[.slice la A.length lk, .slice ra A1.length rc] 22)) := (Below.refl _ V4).alloc (Nat.le_refl _) _
  have MR : Bx (V4.alloc (.cells #[.slice la A.length lk, .slice ra A1.length rc] 22)) V4.heap.size #[.slice la A.length lk, .slice ra A1.length rc] 22 := heap_alloc_last V4 _
  have hq1 : mQ V4 ra A1 := ⟨hcs, by omega, QG fun x hx => (bg x hx).2, fun x hx => Nat.le_trans (bg x hx).1.2 (by decide)⟩
  obtain ⟨V5, hV5⟩ := ZR (V4.alloc (.cells #[.slice la A.length lk, .slice ra A1.length rc] 22))
  rw [hV5] at hbu hb5 MR
  have HR2 : Hid (∀ i, i < 2 → ∃ a c X, #[Value.slice la A.length lk, .slice ra A1.length rc][i]? = some (Value.slice a (List.length X) c) ∧ mQ V5 a X) := Z9 fun i hi => by
   rcases (show i = 0 ∨ i = 1 by omega) with rfl | rfl
   ·exact ⟨la, lk, A, rfl, bn.out.below (hb4.trans (hb5.mono hb4.size))⟩
   ·exact ⟨ra, rc, A1, rfl, hq1.below hb5⟩
  obtain ⟨cs4, lQ⟩ := ZR (#[Value.slice la A.length lk, .slice ra A1.length rc])
  rw [lQ] at MR HR2
  obtain ⟨gz, hgz⟩ := ZR V4.heap.size
  rw [hgz] at hbu MR
  have uO := Z9 MR
  have Pv := Z9 (hb4.trans (hb5.mono hb4.size))
  simp only [pu]
  refine Zh (by kernel_rfl) (some 26) rfl 31 2 #[(0, .tmp 22), (1, .tmp 25)] rfl #[(0, .slice la A.length lk), (1, .slice ra A1.length rc)] (by kernel_rfl) (.slice (some ⟨gz, 0, none⟩) 2 2) _ hbu ?_
  simp only [pu]
  refine ZG (Z8 2) (Z8 0) <| wn ?_
  simp only [pu]
  clear hbu MR hb5 hb4 hV5 lQ hgz hq1 hrow bg hA4 hbt hcs e9 CF CA hns
  go_wp2_with fail
  go_loopg [6, 28] 2 (fun gg s6 s28 wx => ∃ j : Nat, s6 = ZY ∧ s28 = Z8 j ∧ j ≤ 2 ∧ Hid (Below V5.heap.size V5 wx) ∧ 2 - j = gg)
  case atStart => exact ⟨0, rfl, rfl, by omega, Z9 (Below.refl _ _), by omega⟩
  case round =>
   obtain ⟨j, rfl, rfl, hj, HB, hg⟩ := hrel
   generalize wr = wR at *
   by_cases hlt : j < 2
   ·obtain ⟨a, c, X, hcell, hq⟩ := HR2.out j hlt
    have Y0 := Z9 (((uO.out.below uO.out.lt HB.out).load hcell (by kernel_rfl) : (Instr.loadAt 22 (Z5 gz j)).run Try.prog wR = .ok (.slice a X.length c) wR))
    have HQ := Z9 hq
    have HG := Z9 hg
    have C1 := EL X a c p wR (hq.below HB.out).cs hq.l hq.w hq.z mP.out
    have C2 := fun V (h : Below V5.heap.size V5 V) => EK X a c p V (HQ.out.below h).cs HQ.out.l HQ.out.w HQ.out.z
    have HWZ := Z9 (WL.Xo hq.w mP.out)
    generalize Xo X p = Z at *
    clear hcell hq hg
    go_upto_region 4 with fail
    refine wl <| ZM (ZC rfl (j) (2) dT) <| wn ?_
    simp only [pu]
    go_upto_region 5 with fail
    refine wl <| YO (Z5 gz j) (sJ gz 2 2 j hlt _ _ _ rfl (by kernel_rfl) (by kernel_rfl)) <| ZI rfl ⟨gz, j, none⟩ (.slice a X.length c) (Y0.out) <| ZV (.slice a X.length c) <| wn ?_
    simp only [pu]
    go_upto_region 6 with fail
    refine wl <| ZG (.slice a X.length c) (Z7 p) <|
     Yl (fun v w' => ∃ m0 m1 m2, v = .tuple #[.agg (ZL Z.1 m0 m1 m2), Z8 Z.2] ∧ WA w' Z.1 m0 m1 m2 ∧ Below wR.heap.size wR w') (C1.mono fun e w' q => by obtain ⟨m0, m1, m2, h1, h2⟩ := q; exact ⟨_, h1, m0, m1, m2, rfl, h2⟩) (fun vv V6 hq => ?_)
    obtain ⟨m0, m1, m2, rfl, hi6, hb6⟩ := hq
    obtain ⟨V7, Xy, hb7, sH⟩ := VQ V6 Z.1 m0 m1 m2
    simp only [pu]
    refine YT (.tuple #[.agg (ZL Z.1 m0 m1 m2), Z8 Z.2]) (.agg (ZL Z.1 m0 m1 m2)) (Z8 Z.2) ?_
    simp only [pu]
    refine Zz rfl (some 9) rfl (Z5 V6.heap.size 0) (V6.alloc (.cells (#[.slice none 0 0, Z7 0, .slice none 0 0, Z7 0, .slice none 0 0, Z7 0, ZY, Z7 0]) 35)) (by kernel_rfl) ?_
    simp only [pu]
    refine Zt rfl (Xy) <| ZV (Z8 Z.2) <| wn ?_
    simp only [pu]
    obtain ⟨g9, uN⟩ := ZR V6.heap.size
    rw [uN] at sH ⊢
    have lN := hb6.trans (hb7.mono hb6.size)
    have Um := Z9 (HB.out.trans (lN.mono HB.out.size))
    have HI7 := Z9 (hi6.below hb7)
    have MI := Z9 sH
    have C3 := C2 V7 Um.out
    clear C1 C2 hi6 hb6 Xy hb7 sH uN lN Y0 HB
    go_upto_region 7 with fail
    refine wl <| ZG (.slice a X.length c) (Z7 p) <|
     Yl (fun v w' => ∃ m0 m1 m2, v = .tuple #[.agg (ZL Z.1 m0 m1 m2), Z8 Z.2] ∧ WA w' Z.1 m0 m1 m2 ∧ Below V7.heap.size V7 w') (C3.mono fun e w' q => by obtain ⟨m0, m1, m2, h1, h2⟩ := q; exact ⟨_, h1, m0, m1, m2, rfl, h2⟩) (fun vv V8 hq => ?_)
    obtain ⟨p0, p1, p2, rfl, lM, hb8⟩ := hq
    obtain ⟨bf, YJ, WJ, Ue⟩ := VQ V8 Z.1 p0 p1 p2
    simp only [pu]
    refine YT (.tuple #[.agg (ZL Z.1 p0 p1 p2), Z8 Z.2]) (.agg (ZL Z.1 p0 p1 p2)) (Z8 Z.2) ?_
    simp only [pu]
    refine Zz rfl (some 11) rfl (Z5 V8.heap.size 0) (V8.alloc (.cells (#[.slice none 0 0, Z7 0, .slice none 0 0, Z7 0, .slice none 0 0, Z7 0, ZY, Z7 0]) 35)) (by kernel_rfl) ?_
    simp only [pu]
    refine Zt rfl (YJ) <| ZV (Z8 Z.2) <| wn ?_
    simp only [pu]
    obtain ⟨g11, Oy⟩ := ZR V8.heap.size
    rw [Oy] at Ue ⊢
    have zB := hb8.trans (WJ.mono hb8.size)
    have Zj := Z9 (Um.out.trans (zB.mono Um.out.size))
    have lK := Z9 (MI.out.below MI.out.lt zB)
    have lJ := Z9 Ue
    have CS := EJ Z.1 m0 m1 m2 p0 p1 p2 bf (HI7.out.below zB) (lM.below WJ) HWZ.out
    clear C3 lM hb8 YJ WJ Ue Oy zB Um MI
    go_upto_region 8 with fail
    refine wl <| ZG (Z8 Z.2) (Z8 Z.2) <| ZM (YZ rfl Z.2 Z.2 (decide_eq_true rfl)) <| ZV ZY <| ZI rfl ⟨g9, 0, none⟩ (.agg (ZL Z.1 m0 m1 m2)) (Xx lK.out) <|
     ZI rfl ⟨g11, 0, none⟩ (.agg (ZL Z.1 p0 p1 p2)) (Xx lJ.out) <| Y2 Z4 (fun w' => Below bf.heap.size bf w') CS (fun Va uM => ?_)
    have HBa := Z9 (Zj.out.trans (uM.mono Zj.out.size))
    clear uM
    simp only [pu]
    refine ZG ZY ZY <| wn ?_
    simp only [pu]
    clear CS Zj lK lJ HI7
    go_upto_region 10 with fail
    refine wl <| YN (Z8 (j + 1 : Nat)) (ZK rfl j 1 (by omega)) <| ZV (Z8 (j + 1 : Nat)) <| wn ?_
    simp only [pu]
    go_wp2_with fail
    go_roundg (2 - (j + 1))
    case measure => have := HG.out; omega
    case rel => exact ⟨j + 1, rfl, rfl, hlt, HBa, rfl⟩
   ·have HE9 := Pv.out.trans (HB.out.mono Pv.out.size)
    clear HB
    go_upto_region 4 with fail
    refine wl <| ZM (ZC rfl (j) (2) dF) <| wn ?_
    simp only [pu]
    go_upto_region 11 with fail
    refine wl <| Y2 Z4 (fun w' => Below w.heap.size w w') (HK.out wR (HE9)) (fun V9 XQ => ?_)
    simp only [pu]
    refine ZV Z4 <| wn ?_
    simp only [pu]
    have HE := Z9 XQ
    clear XQ
    go_wp2_with fail
    go_ret
    exact ⟨rfl, HE.out⟩
theorem mX (A : List Ac) (p : Int) : (Xo A p).1.o = false := by
 unfold Xo
 split <;> rfl
theorem mW : WL (Xo [] 0).1 := by
 unfold Xo
 split
 ·rename_i h
  exact WL.ini (ML.d ⟨(OA h).1, JX XB, X0⟩) X0
 ·exact WL.z
def emp (n : Nat) : List Bs := List.replicate n (none, 0, [])
theorem GN (n : Nat) : (emp n).length = n := List.length_replicate
theorem uT (w : World) (n : Nat) (hn : n ≤ 100000) : ∃ w1, (Instr.makeSlice 41 (Z8 (n : Int)) (Z8 (n : Int))).run Try.prog w = .ok (.slice (some ⟨w.heap.size, 0, none⟩) (emp n).length n) w1 ∧ MG w1 (some ⟨w.heap.size, 0, none⟩) (emp n) ∧ Below w.heap.size w w1 := by
 obtain ⟨i0, hi, hz0, hz1, hz2⟩ := info_parts EH
 obtain ⟨w1, hr, hO, hg⟩ := run_makeSlice_full (P := Try.prog) w w.heap.size 41 50 i0 _ 1 Try.underlying41 hi hz0 hz1 .i64 .i64 n (by omega) (by rw [hz2]; omega) (by unfold maxLen; omega) (Nat.le_refl _)
 have e : (madeCells (Value.slice none 0 0).cells (n * 1)).toList = fB (emp n) := by
  rw [Nat.mul_one]
  show (madeCells #[Value.slice none 0 0] n).toList = _
  rw [toList_madeCells_one]
  unfold fB emp
  rw [List.map_replicate]
  rfl
 rw [e] at hO
 obtain ⟨a, c, e1, h1, -⟩ := Yj hO
 obtain ⟨rfl, -, rfl⟩ := by simpa only [Value.slice.injEq] using e1
 have he : ∀ x : Bs, x ∈ emp n → x = (none, 0, []) := fun x hx => List.eq_of_mem_replicate hx
 exact ⟨w1, by rw [hr, GN], ⟨h1, fun x hx => by rw [he x hx]; exact .inl ⟨rfl, rfl, rfl⟩, fun x hx => by rw [he x hx]; exact Nat.le_refl _, fun x hx => by rw [he x hx]; exact fun y hy => by cases hy⟩, hg.os, hg.tape, hg.output, hg.size, fun k hk => hg.block k hk (by simp)⟩
theorem uS {P : Program} {ops : Array Oper} {rest : List Oper} {o : Oper} {a : Act} {w : World} {Q : Exit → Act → World → Prop} (hw : Region.wanted o (yielded ops a.tmps) = true) (d : Option Tmp) (hd : o.dst = d) (t : TypeId) (x y : Operand) (ho : o.op = .makeSlice t x y)
  (vx vy v : Value) (hx : a.eval x = vx) (hy : a.eval y = vy) (w2 : World) (hr : (Instr.makeSlice t vx vy).run P w = .ok v w2) (k : wpList P ops Q rest (a.put d v) w2) : wpList P ops Q (o :: rest) a w := by
 refine UZ hw d hd v w2 ?_ k
 unfold execOp
 simp only [ho, hx, hy, Sem.run_bind, hr]
 rfl
theorem J5 (x0 : Int) (w : World) : Calls Try.prog 4 #[Z8 x0] w fun e w' => e = .returned Z4 ∧ Below w.heap.size w w' := by
 have HK := Z9 (fun (V : World) (h : Below w.heap.size w V) => (QH V).mono fun e w' (q : e = .returned Z4 ∧ Below V.heap.size V w') => (⟨q.1, h.trans (q.2.mono h.size)⟩ : e = .returned Z4 ∧ Below w.heap.size w w'))
 have CI := EK [] none 0 0 w (Cs.nil _ _) (by simp) XB (fun x hx => by cases hx)
 have HDO := Z9 (mX [] 0)
 have HDW := Z9 mW
 generalize Xo [] 0 = Z at *
 go_enter Try.func4, Try.ntmps4
 go_upto_region 1 with fail
 refine wl <| Yl (fun v w' => ∃ m0 m1 m2, v = .tuple #[.agg (ZL Z.1 m0 m1 m2), Z8 Z.2] ∧ WA w' Z.1 m0 m1 m2 ∧ Below w.heap.size w w') (CI.mono fun e w' q => by obtain ⟨m0, m1, m2, h1, h2⟩ := q; exact ⟨_, h1, m0, m1, m2, rfl, h2⟩) (fun vv V1 hq => ?_)
 obtain ⟨m0, m1, m2, rfl, hi1, hb1⟩ := hq
 obtain ⟨V2, hst2, hb2, hY2⟩ := VQ V1 Z.1 m0 m1 m2
 simp only [pu]
 refine YT (.tuple #[.agg (ZL Z.1 m0 m1 m2), Z8 Z.2]) (.agg (ZL Z.1 m0 m1 m2)) (Z8 Z.2) ?_
 simp only [pu]
 refine Zz rfl (some 3) rfl (Z5 V1.heap.size 0) (V1.alloc (.cells (#[.slice none 0 0, Z7 0, .slice none 0 0, Z7 0, .slice none 0 0, Z7 0, ZY, Z7 0]) 35)) (by kernel_rfl) ?_
 simp only [pu]
 refine Zt rfl (hst2) <| ZV (Z8 Z.2) <| wn ?_
 simp only [pu]
 obtain ⟨g3, hg3⟩ := ZR V1.heap.size
 rw [hg3] at hY2 ⊢
 have HB2 := Z9 (hb1.trans (hb2.mono hb1.size))
 have HI2 := Z9 (hi1.below hb2)
 have Yr := Z9 hY2
 clear CI hi1 hb1 hst2 hb2 hY2 hg3
 obtain ⟨v, hv, hv3⟩ : ∃ v : Nat, pl x0 3 = v ∧ v < 3 := ⟨(pl x0 3).toNat, by have := Tq x0 3 (by decide); omega, by have := Tq x0 3 (by decide); omega⟩
 have CP := KU x0 3 V2 (by decide) (by decide)
 rw [hv] at CP
 obtain ⟨n, hnn⟩ := ZR (511 + v)
 have hn3 : n ≤ 513 := by omega
 obtain ⟨V3, hmk, hE3, hb3⟩ := uT V2 n (by omega)
 obtain ⟨gz, hgz⟩ := ZR V2.heap.size
 rw [hgz] at hmk hE3
 have HEL := Z9 (GN n)
 have HN3 := Z9 hn3
 generalize emp n = E at *
 go_upto_region 2 with fail
 refine wl <| ZV (Z8 x0) <| Y2 (Z8 v) (fun w' => V2 = w') CP (fun V9 hV => ?_)
 subst hV
 simp only [pu]
 refine YO (Z8 n) (hnn ▸ ZK rfl 511 v (by omega) (by kernel_rfl) (by kernel_rfl) _) ?_
 simp only [pu]
 refine uS (by kernel_rfl) (some 16) rfl 41 (.tmp 15) (.tmp 15) rfl (Z8 n) (Z8 n) (.slice (some ⟨gz, 0, none⟩) E.length n) (by kernel_rfl) (by kernel_rfl) V3 hmk ?_
 simp only [pu]
 refine ZV (.slice (some ⟨gz, 0, none⟩) E.length n) <| wn ?_
 simp only [pu]
 have HB3 := Z9 (HB2.out.trans (hb3.mono HB2.out.size))
 have HI3 := Z9 (HI2.out.below hb3)
 have Wu := Z9 (Yr.out.below Yr.out.lt hb3)
 have CF := Ou Z.1 m0 m1 m2 E (some ⟨gz, 0, none⟩) n V3 HI3.out HDW.out hE3 (by have := HEL.out; omega)
 have hlE := HEL.out
 have Xf : Hid (512 < E.length → XM Z.1 (lsB E) = (Uw, [], 3)) := Z9 fun h => by unfold XM; rw [if_neg (by rw [HDO.out]; decide), if_pos (by rw [Yq]; exact h)]
 have Wq : Hid (¬ 512 < E.length → (XM Z.1 (lsB E)).1.o = true ∧ (XM Z.1 (lsB E)).2.1.length = E.length ∧ (XM Z.1 (lsB E)).2.2 = 0) := Z9 fun h => by
  unfold XM
  rw [if_neg (by rw [HDO.out]; decide), if_neg (by rw [Yq]; exact h)]
  refine ⟨rfl, ?_, rfl⟩
  show (Ez Z.1 (lsB E)).length = _
  unfold Ez
  rw [KH, Yq]
 generalize XM Z.1 (lsB E) = X at *
 clear hmk hE3 hb3 hgz hv hnn CP HB2 HI2 Yr hv3
 go_upto_region 3 with fail
 refine wl <| ZI rfl ⟨g3, 0, none⟩ (.agg (ZL Z.1 m0 m1 m2)) (Xx Wu.out) <| ZV (.slice (some ⟨gz, 0, none⟩) E.length n) <|
  Yl (fun v w' => ∃ m0 m1 m2 r, v = .tuple #[.agg (ZL X.1 m0 m1 m2), r, Z8 X.2.2] ∧ Wy w' V3.heap.size r X.2.1 ∧ Below V3.heap.size V3 w') (CF.mono fun e w' q => by obtain ⟨m0, m1, m2, r, h1, h2, h3, h4⟩ := q; exact ⟨_, h1, m0, m1, m2, r, rfl, h3, h4⟩) (fun vv V4 hq => ?_)
 obtain ⟨p0, p1, p2, r, rfl, hr4, hb4⟩ := hq
 obtain ⟨ar, cr, rfl, -, -⟩ := Yj hr4
 obtain ⟨V5, hst5, hb5, tN⟩ := VQ V4 X.1 p0 p1 p2
 simp only [pu]
 refine Xl (.tuple #[.agg (ZL X.1 p0 p1 p2), .slice ar X.2.1.length cr, Z8 X.2.2]) (.agg (ZL X.1 p0 p1 p2)) (.slice ar X.2.1.length cr) (Z8 X.2.2) ?_
 simp only [pu]
 refine Zz rfl (some 6) rfl (Z5 V4.heap.size 0) (V4.alloc (.cells (#[.slice none 0 0, Z7 0, .slice none 0 0, Z7 0, .slice none 0 0, Z7 0, ZY, Z7 0]) 35)) (by kernel_rfl) ?_
 simp only [pu]
 refine Zt rfl (hst5) <| ZG (.slice ar X.2.1.length cr) (Z8 X.2.2) <| wn ?_
 simp only [pu]
 obtain ⟨g6, Vk⟩ := ZR V4.heap.size
 rw [Vk] at tN ⊢
 have dI := hb4.trans (hb5.mono hb4.size)
 have Pv := Z9 (HB3.out.trans (dI.mono HB3.out.size))
 have uO := Z9 tN
 clear CF hr4 hb4 hst5 hb5 tN Vk dI HB3 HI3 Wu
 by_cases hbig : 512 < E.length
 ·have h1 : X.2.2 = 3 := by rw [Xf.out hbig]
  have h2 : X.2.1.length = 0 := by rw [Xf.out hbig]; rfl
  have h3 : X.1.o = false := by rw [Xf.out hbig]; rfl
  have F1 := Z9 (And.intro h1 (And.intro h2 h3))
  clear h1 h2 h3
  go_upto_region 4 with fail
  refine wl <| ZG (.slice (some ⟨gz, 0, none⟩) E.length n) (Z8 E.length) <| ZM (Zl rfl E.length 512 dT) <| wn ?_
  simp only [pu]
  go_upto_region 5 with fail
  refine wl <| ZV (Z8 X.2.2) <| ZM (TG rfl X.2.2 3 (decide_eq_true F1.out.1)) <| YT Z4 (.slice ar X.2.1.length cr) (Z8 X.2.1.length) <|
   ZM (Xv rfl X.2.1.length 0 (decide_eq_true (by have := F1.out.2.1; omega))) <| YT Z4 Z4 (Z5 g6 6) <|
   ZI rfl ⟨g6, 6, none⟩ ZY (VW (i := 6) uO.out (congrArg (fun z => some (Value.bool z)) (F1.out.2.2))) <| YT Z4 Z4 Z4 <| Y2 Z4 (fun w' => Below w.heap.size w w') (HK.out V5 Pv.out) (fun V9 XQ => ?_)
  have HE := Z9 XQ
  clear XQ
  simp only [pu]
  refine ZG Z4 Z4 <| wn ?_
  simp only [pu]
  go_wp2_with fail
  go_ret
  exact ⟨rfl, HE.out⟩
 ·obtain ⟨h3, h2, h1⟩ := Wq.out hbig
  have F1 := Z9 (And.intro h1 (And.intro h2 h3))
  clear h1 h2 h3
  go_upto_region 4 with fail
  refine wl <| ZG (.slice (some ⟨gz, 0, none⟩) E.length n) (Z8 E.length) <| ZM (Zl rfl E.length 512 dF) <| wn ?_
  simp only [pu]
  go_upto_region 6 with fail
  refine wl <| ZV (Z8 X.2.2) <| ZM (TG rfl X.2.2 0 (decide_eq_true F1.out.1)) <| Sz Z4 (.slice ar X.2.1.length cr) (Z8 X.2.1.length) (.slice (some ⟨gz, 0, none⟩) E.length n) (Z8 E.length) <|
   ZM (Xv rfl X.2.1.length E.length (decide_eq_true (by rw [F1.out.2.1]))) <| YT Z4 Z4 (Z5 g6 6) <|
   ZI rfl ⟨g6, 6, none⟩ Z4 (VW (i := 6) uO.out (congrArg (fun z => some (Value.bool z)) (F1.out.2.2))) <| ZG Z4 Z4 <| Y2 Z4 (fun w' => Below w.heap.size w w') (HK.out V5 Pv.out) (fun V9 XQ => ?_)
  have HE := Z9 XQ
  clear XQ
  simp only [pu]
  refine ZG Z4 Z4 <| wn ?_
  simp only [pu]
  go_wp2_with fail
  go_ret
  exact ⟨rfl, HE.out⟩
end Go.Proofs.Ytnhlpahoomcgnaa.Lg
namespace Go.Proofs.Ytnhlpahoomcgnaa.Lg
open Go.ChangeShapes Go.WideShapes Go.ChangeAt Go.RowKit Go.Deep Go.Joins
theorem zL {H : Type} {enc : TypeId × Value → H} {W : World} {fuel : Nat} {cs : List Value} {y : DataW H × List MemPlace} (h : DataW.trod enc Try.prog W 0 (fun _ => true) true fuel 24 cs = some y) :
  ∃ a cap L, cs = [.slice a (List.length L) cap] ∧ L.length ≤ 9223372036854775807 ∧ Cs W a (XO L) := by
 rcases open_ints Try.underlying24 Try.underlying3 (by kernel_rfl) h with ⟨rfl, rfl⟩ | ⟨x, l, c, zs, rfl, _, hl, hm, hz, rfl, hcell, hwz⟩
 ·exact ⟨none, 0, [], rfl, by simp, Cs.nil _ _⟩
 ·have hz' : zs.length = c := by simpa using hz
  have hlen : (zs.take l).length = l := by rw [List.length_take]; omega
  refine ⟨some x, c, zs.take l, by rw [hlen], by rw [hlen]; unfold maxLen at hm; omega, fun j v hj => ?_⟩
  have hjl : j < (zs.take l).length := by
   have := (List.getElem?_eq_some_iff.1 hj).1
   simpa [XO] using this
  have hjz : j < zs.length := by omega
  obtain ⟨b, off, rfl, hc⟩ := ints_at hcell (by omega)
  rw [OQ _ _ hjl] at hj
  simp only [Option.some.injEq] at hj
  have hcj := hc j hjz
  refine ⟨b, off, rfl, World.block_lt_of_cell? W _ hcj, ?_⟩
  rw [hcj, ← hj]
  simp [List.getD, show j < l by omega]
theorem uQ {α : Type} {Q : Nat → α → Prop} (n : Nat) (h : ∀ i, i < n → ∃ p, Q i p) : ∃ ps : List α, ps.length = n ∧ ∀ i p, ps[i]? = some p → Q i p := by
 induction n with
 | zero => exact ⟨[], rfl, fun i p hi => by simp at hi⟩
 | succ n ih =>
  obtain ⟨ps, hl, hq⟩ := ih (fun i hi => h i (by omega))
  obtain ⟨p, hp⟩ := h n (by omega)
  refine ⟨ps ++ [p], by simp [hl], fun i q hi => ?_⟩
  by_cases hlt : i < n
  ·rw [List.getElem?_append_left (by omega)] at hi
   exact hq i q hi
  ·have hb := (List.getElem?_eq_some_iff.1 hi).1
   rw [List.length_append, List.length_singleton] at hb
   obtain rfl : i = n := by omega
   rw [List.getElem?_append_right (by omega), hl] at hi
   simp at hi
   exact hi ▸ hp
theorem OB (x : ByteArray) : x.data.toList.length = x.size := Array.length_toList
theorem RG {x : Int} (h : (Lit.int .u64 x).wf = true) : W64 x := by
 simp [Lit.wf, IntKind.min, IntKind.max, IntKind.signed, IntKind.bits] at h
 exact ⟨by omega, by omega⟩
theorem Rq {H : Type} {P : Program} {e : TypeId} {d : DataW H} : ∀ {ds : List (DataW H)}, d ∈ ds → ∀ n, n ∈ d.weights P e → n ∈ DataW.weightsAll P e ds
 | x :: r, h, n, hn => by
  simp only [DataW.weightsAll, List.mem_append]
  rcases List.mem_cons.1 h with rfl | h
  ·exact .inl hn
  ·exact .inr (Rq h n hn)
theorem mV {H : Type} {enc : TypeId × Value → H} {W : World} {fuel : Nat} {cs : List Value} {y : DataW H × List MemPlace} (h : DataW.trod enc Try.prog W 0 (fun _ => true) true fuel 49 cs = some y) :
  ∃ x : Ac, cs = acl x ∧ (W64 x.2.1 ∧ W64 x.2.2) ∧ (x.1.size : Nat) ∈ y.1.weights Try.prog 49 := by
 obtain ⟨y0, y1, y2, n, rfl, hl, t0, t1, t2⟩ := trod_struct3 Try.underlying49 h
 have hc : Try.prog.cellsOf 49 = 3 := by kernel_rfl
 rw [hc] at hl
 match cs, hl with
 | [c0, c1, c2], _ =>
  obtain ⟨s0, e0, d0, -⟩ := DataW.trod_string Try.underlying9 t0
  obtain ⟨n1, e1, -, w1⟩ := DataW.trod_int (k := .u64) Try.underlying23 t1
  obtain ⟨n2, e2, -, w2⟩ := DataW.trod_int (k := .u64) Try.underlying23 t2
  have k0 : Try.prog.cellsOf 9 = 1 := by kernel_rfl
  have k1 : Try.prog.cellsOf 23 = 1 := by kernel_rfl
  simp only [k0, k1, List.drop_zero, List.drop_succ_cons, List.take_succ_cons, List.take_zero, List.cons.injEq, and_true] at e0 e1 e2
  subst e0 e1 e2
  refine ⟨(s0, n1, n2), rfl, ⟨RG w1, RG w2⟩, ?_⟩
  rw [d0]
  simp [DataW.weights, Try.underlying49, DataW.weightsEach]
theorem uP {H : Type} {enc : TypeId × Value → H} {W : World} {fuel : Nat} {cs : List Value} {y : DataW H × List MemPlace} (h : DataW.trod enc Try.prog W 0 (fun _ => true) true fuel 22 cs = some y) (hz : ∀ n, n ∈ y.1.weights Try.prog 22 → n ≤ reachBytes) :
  ∃ a cap M, cs = [.slice a (List.length M) cap] ∧ M.length ≤ cap ∧ M.length * 32 ≤ 140737488351232 ∧ Cs W a (acc M) ∧ ∀ x, x ∈ M → (W64 x.2.1 ∧ W64 x.2.2) ∧ x.1.size ≤ 140737488355328 := by
 rcases open_slice Try.underlying22 h with ⟨rfl, rfl⟩ | ⟨a, len, cap, m, n, D, Pl, rfl, _, hl, hm, hmm, rfl, hi⟩
 ·exact ⟨none, 0, [], rfl, Nat.le_refl _, by simp, Cs.nil _ _, fun x hx => by cases hx⟩
 ·have hm' : m = cap := by simpa using hmm
  have hc : Try.prog.cellsOf 49 = 3 := by kernel_rfl
  have h32 : Try.prog.bytesOf 49 = 32 := by kernel_rfl
  have hr : reachBytes = 140737488351232 := rfl
  have hlen : len * 32 ≤ 140737488351232 := by
   have h1 := hz ((len + (m - len)) * 32) (by simp [DataW.weights, Try.underlying22, h32])
   rw [hr] at h1
   have : len * 32 ≤ (len + (m - len)) * 32 := Nat.mul_le_mul_right _ (Nat.le_add_right _ _)
   omega
  obtain ⟨M, hpl, hps⟩ := uQ (Q := fun i (x : Ac) => (∀ j v, (acl x)[j]? = some v → W.cell? (a.add (i * 3 + j)) = some v) ∧ (W64 x.2.1 ∧ W64 x.2.2) ∧ x.1.size ≤ 140737488355328) len (by
   intro i hlt
   obtain ⟨cs', h1, h2⟩ := hi i (by omega)
   obtain ⟨x, rfl, hw, hwt⟩ := mV h2
   rw [hc] at h1
   obtain ⟨_, _, hat⟩ := World.cells?_some h1
   refine ⟨x, fun j v hj => ?_, hw, ?_⟩
   ·have hj3 : j < 3 := by
     have := (List.getElem?_eq_some_iff.1 hj).1
     simpa [acl] using this
    have := hat j hj3
    rw [add_add] at this
    rw [this, hj]
   ·have hmem : D i ∈ (List.range len).map D := List.mem_map.2 ⟨i, List.mem_range.2 hlt, rfl⟩
    have h3 := hz _ (by
     simp only [DataW.weights, Try.underlying22]
     exact List.mem_cons_of_mem _ (List.mem_append_left _ (Rq hmem _ hwt)))
    omega)
  have hspot : 0 < M.length → a.spot = none := fun h0 => by
   have h1 := (hps 0 (M[0]) (by simp [h0])).1 0 (.string (M[0]).1) rfl
   have h2 : W.cell? a = some (.string (M[0]).1) := by simpa [Addr.add] using h1
   exact World.cell?_spot h2
  refine ⟨some a, cap, M, by rw [hpl], by rw [hpl]; omega, by rw [hpl]; exact hlen, fun j v hj => ?_, fun x hx => by
   obtain ⟨i, hlt, e⟩ := List.getElem_of_mem hx
   exact (hps i x (by rw [List.getElem?_eq_getElem hlt, e])).2⟩
  have hjl : j < M.length * 3 := by
   have := (List.getElem?_eq_some_iff.1 hj).1
   rwa [Yd] at this
  obtain ⟨b, off, spot⟩ := a
  obtain rfl : spot = none := hspot (by omega)
  have hk : j / 3 < M.length := by omega
  have hcell : W.cell? ⟨b, off + j, none⟩ = some v := by
   have h1 := (hps (j / 3) (aca M (j / 3)) (by rw [YH hk]; exact List.getElem?_eq_getElem hk)).1 (j % 3)
   obtain ⟨c0, c1, c2⟩ := Jz M (j / 3) hk
   have h2 : (acl (aca M (j / 3)))[j % 3]? = some v := by
    rcases (show j % 3 = 0 ∨ j % 3 = 1 ∨ j % 3 = 2 by omega) with e | e | e
    ·rw [show j = j / 3 * 3 by omega, c0] at hj; rw [e]; exact hj
    ·rw [show j = j / 3 * 3 + 1 by omega, c1] at hj; rw [e]; exact hj
    ·rw [show j = j / 3 * 3 + 2 by omega, c2] at hj; rw [e]; exact hj
   have h3 := h1 v h2
   rw [Go.WideShapes.add_plain, show j / 3 * 3 + j % 3 = j by omega] at h3
   exact h3
  exact ⟨b, off, rfl, World.block_lt_of_cell? W _ hcell, hcell⟩
end Go.Proofs.Ytnhlpahoomcgnaa.Lg
