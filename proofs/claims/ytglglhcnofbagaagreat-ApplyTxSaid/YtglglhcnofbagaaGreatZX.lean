/-
  ApplyTx returns true for every input: the ledger and the result of any bytes on any ledger, valid or not, with any price; the arguments read afterwards as before.
  Conditions: none beyond the statement's own: the bound on a word's bytes is the reading's own reach.
-/
import Derived.Test.YtglglhcnofbagaaGreatJ31
import Derived.Test.YtglglhcnofbagaaGreatJ26
import Derived.WalkKit
import Derived.Test.YtglglhcnofbagaaGreatRows
import Derived.ProofKit
import Derived.OpenShut
import Derived.ShutString
import Derived.ChangeOld
import Derived.ChangeMaps5
import Derived.SizedLaws
import Derived.Below
namespace Go.Proofs.YtglglhcnofbagaaGreat.Lg
attribute [local irreducible] wpList wpQuiet
set_option maxRecDepth 100000
open Mo (usedV prioV mulB mulV)
open Go.RowKit
set_option linter.unusedSimpArgs false
set_option linter.unusedVariables false

theorem infoLg : (Tryz.prog.info? 25).map (fun i => (i.zero, i.size, i.bytes)) = some (some (.agg #[.slice none 0 0, .int .u64 0]), 2, 32) := by kernel_rfl
theorem infoB : (Tryz.prog.info? 26).map (fun i => (i.zero, i.size, i.bytes)) = some (some (.slice none 0 0), 1, 24) := by kernel_rfl
theorem build_lg2 (a a2 : Option Addr) (n n2 k k2 : Nat) (c c2 : Int) (V : World) : (Instr.buildSlice 34 2 #[(0, .agg (lgA a n k c)), (1, .agg (lgA a2 n2 k2 c2))]).run Tryz.prog V = .ok (.slice (some ⟨V.heap.size, 0, none⟩) 2 2) (V.alloc (.cells #[.slice a n k, .int .u64 c, .slice a2 n2 k2, .int .u64 c2] 25)) := by
 obtain ⟨i0, hi, hz0, hz1, hz2⟩ := info_parts infoLg
 refine run_buildSlice V 34 25 2 _ _ i0 _ Tryz.underlying34 hi hz0 (by rw [hz1]; omega) (by rw [hz1]; omega) ?_
 rw [hz1]
 kernel_rfl
theorem build_bs2 (a a2 : Option Addr) (n n2 k k2 : Nat) (V : World) : (Instr.buildSlice 35 2 #[(0, .slice a n k), (1, .slice a2 n2 k2)]).run Tryz.prog V = .ok (.slice (some ⟨V.heap.size, 0, none⟩) 2 2) (V.alloc (.cells #[.slice a n k, .slice a2 n2 k2] 26)) := by
 obtain ⟨i0, hi, hz0, hz1, hz2⟩ := info_parts infoB
 refine run_buildSlice V 35 26 2 _ _ i0 _ Tryz.underlying35 hi hz0 (by rw [hz1]; omega) (by rw [hz1]; omega) ?_
 rw [hz1]
 kernel_rfl
theorem build_uu (x y : Int) (V : World) : (Instr.buildSlice 36 2 #[(0, .int .u64 x), (1, .int .u64 y)]).run Tryz.prog V = .ok (.slice (some ⟨V.heap.size, 0, none⟩) 2 2) (V.alloc (.cells #[.int .u64 x, .int .u64 y] 23)) := by
 obtain ⟨i0, hi, hz0, hz1, hz2⟩ := info_parts infoU
 refine run_buildSlice V 36 23 2 _ _ i0 _ Tryz.underlying36 hi hz0 (by rw [hz1]; omega) (by rw [hz1]; omega) ?_
 rw [hz1]
 kernel_rfl
theorem idx_lg (b off n c k : Nat) (hk : k < n) (V : World) (ρ : Operand → Value) (o : Oper) {x y : Operand} (ho : o.op = .indexAddr 34 x y) (hx : ρ x = .slice (some ⟨b, off, none⟩) n c) (hy : ρ y = .int .i64 k) : (execOp ρ o).run Tryz.prog V = .ok (.value (.pointer (some ⟨b, off + k * 2, none⟩))) V := by
 have hs : (sizeOf (Tryz.prog.elem 34)).run Tryz.prog V = .ok 2 V := by kernel_rfl
 have hlm : (k : Int) < (n : Int) := by omega
 unfold execOp
 simp only [ho, hx, hy]
 go_simp
theorem idx_b (b off n c k : Nat) (hk : k < n) (V : World) (ρ : Operand → Value) (o : Oper) {x y : Operand} (ho : o.op = .indexAddr 35 x y) (hx : ρ x = .slice (some ⟨b, off, none⟩) n c) (hy : ρ y = .int .i64 k) : (execOp ρ o).run Tryz.prog V = .ok (.value (.pointer (some ⟨b, off + k * 1, none⟩))) V := by
 have hs : (sizeOf (Tryz.prog.elem 35)).run Tryz.prog V = .ok 1 V := by kernel_rfl
 have hlm : (k : Int) < (n : Int) := by omega
 unfold execOp
 simp only [ho, hx, hy]
 go_simp
theorem idx_w (b off n c k : Nat) (hk : k < n) (V : World) (ρ : Operand → Value) (o : Oper) {x y : Operand} (ho : o.op = .indexAddr 36 x y) (hx : ρ x = .slice (some ⟨b, off, none⟩) n c) (hy : ρ y = .int .i64 k) : (execOp ρ o).run Tryz.prog V = .ok (.value (.pointer (some ⟨b, off + k * 1, none⟩))) V := by
 have hs : (sizeOf (Tryz.prog.elem 36)).run Tryz.prog V = .ok 1 V := by kernel_rfl
 have hlm : (k : Int) < (n : Int) := by omega
 unfold execOp
 simp only [ho, hx, hy]
 go_simp
/-- A ledger in memory, of whatever size. -/
structure LdE (W : World) (la : Option Addr) (lk : Nat) (A : List Ac) (c : Int) : Prop where
 cs : Cs W la (acc A)
 le : A.length ≤ lk
 n : A.length ≤ 4398046511104
 cw : W64 c
 w : AcW A
 z : ∀ x, x ∈ A → x.1.size ≤ 140737488355328
theorem LdE.below {W V : World} {la : Option Addr} {lk : Nat} {A : List Ac} {c : Int} (h : LdE W la lk A c) (hb : Below W.heap.size W V) : LdE V la lk A c := ⟨h.cs.below hb, h.le, h.n, h.cw, h.w, h.z⟩
structure ByE (W : World) (a : Option Addr) (c : Nat) (R : List Int) : Prop where
 sl : Sl W a c R
 le : R.length ≤ c
 b : ∀ y, y ∈ R → W8 y
theorem ByE.below {W V : World} {a : Option Addr} {c : Nat} {R : List Int} (h : ByE W a c R) (hb : Below W.heap.size W V) : ByE V a c R := ⟨sl_below h.sl hb, h.le, h.b⟩
theorem ld_lg2 {W V : World} {g : Nat} {a a2 : Option Addr} {k k2 : Nat} {A B : List Ac} {c c2 : Int} (h : Bx V g #[.slice a A.length k, .int .u64 c, .slice a2 B.length k2, .int .u64 c2] 25) (h1 : LdE W a k A c) (h2 : LdE W a2 k2 B c2) {i : Nat} (hi : i < 2) : ∃ la lk Q d, (Instr.loadAt 25 (.pointer (some ⟨g, 0 + i * 2, none⟩))).run Tryz.prog V = .ok (.agg (lgA la (List.length Q) lk d)) V ∧ LdE W la lk Q d := by
 rcases (show i = 0 ∨ i = 1 by omega) with rfl | rfl
 ·exact ⟨a, k, A, c, run_loadAt_mid V g 0 25 [.slice a A.length k, .int .u64 c] _ (Bx.two h 0 _ _ rfl rfl) Tryz.underlying25 rfl (by kernel_rfl), h1⟩
 ·exact ⟨a2, k2, B, c2, run_loadAt_mid V g 2 25 [.slice a2 B.length k2, .int .u64 c2] _ (Bx.two h 2 _ _ rfl rfl) Tryz.underlying25 rfl (by kernel_rfl), h2⟩
theorem ld_bs2 {W V : World} {g : Nat} {a a2 : Option Addr} {k k2 : Nat} {A B : List Int} (h : Bx V g #[.slice a A.length k, .slice a2 B.length k2] 26) (h1 : ByE W a k A) (h2 : ByE W a2 k2 B) {i : Nat} (hi : i < 2) : ∃ ra rc R, (Instr.loadAt 26 (.pointer (some ⟨g, 0 + i * 1, none⟩))).run Tryz.prog V = .ok (.slice ra (List.length R) rc) V ∧ ByE W ra rc R := by
 rcases (show i = 0 ∨ i = 1 by omega) with rfl | rfl
 ·exact ⟨a, k, A, h.load (i := 0) rfl (by kernel_rfl), h1⟩
 ·exact ⟨a2, k2, B, h.load (i := 1) rfl (by kernel_rfl), h2⟩
theorem ld_uu {V : World} {g : Nat} {x y : Int} (h : Bx V g #[.int .u64 x, .int .u64 y] 23) (h1 : W64 x) (h2 : W64 y) {i : Nat} (hi : i < 2) : ∃ n, (Instr.loadAt 23 (.pointer (some ⟨g, 0 + i * 1, none⟩))).run Tryz.prog V = .ok (.int .u64 n) V ∧ W64 n := by
 rcases (show i = 0 ∨ i = 1 by omega) with rfl | rfl
 ·exact ⟨x, h.load (i := 0) rfl (by kernel_rfl), h1⟩
 ·exact ⟨y, h.load (i := 1) rfl (by kernel_rfl), h2⟩
theorem neq_res {ρ : Operand → Value} {o : Oper} {x y : Operand} (ho : o.op = .binOp .neq 39 x y 39) (r : Res) (hx : ρ x = .agg (resA r)) (hy : ρ y = .agg (resA r)) (w : World) : (execOp ρ o).run Tryz.prog w = .ok (.value (.bool false)) w := by
 unfold execOp
 simp only [ho, hx, hy]
 go_simp
theorem tx_len {A : List Ac} {c p : Int} {R : List Int} (hn : A.length ≤ 4398046511104) (hw : AcW A) (hc : W64 c) (hp : W64 p) (h8 : ∀ y, y ∈ R → W8 y) : (txX A c p R).1.1.length ≤ 4398046511104 := by
 rcases tx_seq (A := A) (c := c) (price := p) (L := R) with ⟨-, h1⟩ | ⟨-, h1, hv, hd, hf, -⟩
 ·rw [h1]; exact hn
 ·have hq := fa_q h8 hv hw hc hp hd
  obtain ⟨d1, d2⟩ := fault_0 hq hf
  rw [h1]
  exact Nat.le_trans d2 (by decide)
set_option maxRecDepth 100000 in
set_option maxHeartbeats 8000000 in
theorem tx_core (a0 : Option Addr) (c0 : Nat) (A0 : List Ac) (l0 x1 : Int) (a2 : Option Addr) (c2 : Nat) (L2 : List Int) (ak : Option Addr) (ck : Nat) (L : List Int) (w : World) (he : LdE w a0 c0 A0 l0) (hp : W64 x1) (hr : ByE w a2 c2 L2) (hl : L.length ≤ 9223372036854775807) (hk : Cs w ak (icells L)) :
  Calls Tryz.prog 3 #[.agg (lgA a0 A0.length c0 l0), .int .u64 x1, .slice a2 L2.length c2, .slice ak L.length ck] w fun e w' => e = .returned (.bool true) ∧ Below w.heap.size w w' := by
 have HNL := Lib.hid hl
 have hb0 : Below w.heap.size w (w.alloc (.cells (lgA a0 A0.length c0 l0) 25)) := (Below.refl _ w).alloc (Nat.le_refl _) _
 have hX0 : Bx (w.alloc (.cells (lgA a0 A0.length c0 l0) 25)) w.heap.size (lgA a0 A0.length c0 l0) 25 := heap_alloc_last w _
 have HE0 := Lib.hid (he.below hb0)
 have HR0 := Lib.hid (hr.below hb0)
 have HCK := Lib.hid (hk.below hb0)
 have HP := Lib.hid hp
 have HK := Lib.hid (fun (V : World) (h : Below w.heap.size w V) => (known_true q_tx V).mono fun e w' (q : e = .returned (.bool true) ∧ Below V.heap.size V w') => (⟨q.1, h.trans (q.2.mono h.size)⟩ : e = .returned (.bool true) ∧ Below w.heap.size w w'))
 clear hl hk he hr hp
 go_enter Tryz.func3, Tryz.ntmps3
 go_upto_region 1 with fail
 change Code.wp _ _ _ _ (w.alloc (.cells (lgA a0 A0.length c0 l0) 25))
 generalize w.alloc (.cells (lgA a0 A0.length c0 l0) 25) = W at *
 obtain ⟨g4, hg4⟩ : ∃ g4, w.heap.size = g4 := ⟨_, rfl⟩
 have HB0 := Lib.hid hb0
 rw [hg4] at hX0
 simp only [hg4]
 have HX4 := Lib.hid hX0
 clear hb0 hX0 hg4
 have CLn := long_one W.heap.size ak L.length ck (W.alloc (.cells #[.slice ak L.length ck] 27)) (heap_alloc_last W _) HNL.out
 have hor := one_row ak L.length ck W
 have hb1 : Below W.heap.size W (W.alloc (.cells #[.slice ak L.length ck] 27)) := (Below.refl _ W).alloc (Nat.le_refl _) _
 have HCKa := Lib.hid (HCK.out.below hb1)
 have HX41 := Lib.hid (HX4.out.below HX4.out.lt hb1)
 have HE1 := Lib.hid (HE0.out.below hb1)
 have HR1 := Lib.hid (HR0.out.below hb1)
 have HBa := Lib.hid (HB0.out.trans (hb1.mono HB0.out.size))
 generalize W.alloc (.cells #[.slice ak L.length ck] 27) = Wa at *
 clear hb1 HE0 HR0 HCK HX4
 by_cases hL : 160 < L.length
 ·skip
  rw [decide_eq_true (by omega)] at CLn
  refine wl <| gz1 (.slice ak L.length ck) ?_
  simp only [pu]
  refine gw_build (by kernel_rfl) (some 24) rfl 67 1 #[(0, .tmp 23)] rfl #[(0, .slice ak L.length ck)] (by kernel_rfl) (.slice (some ⟨W.heap.size, 0, none⟩) 1 1) _ hor ?_
  simp only [pu]
  refine gzc (.bool true) (fun w' => Wa = w') CLn (fun W2 hW => ?_)
  subst hW
  simp only [pu]
  refine gz6 (.bool true) undef undef undef (.bool true) (.bool true) <| gz4 undef undef undef (.bool true) <| wn ?_
  simp only [pu]
  clear CLn hor
  go_upto_region 2 with fail
  refine wl <| gzc (.bool true) (fun w' => Below w.heap.size w w') (HK.out Wa (HBa.out)) (fun V9 hV9 => ?_)
  simp only [pu]
  refine gz1 (.bool true) <| wn ?_
  simp only [pu]
  have HE := Lib.hid hV9
  clear hV9
  go_wp2_with fail
  go_ret
  exact ⟨rfl, HE.out⟩
 ·skip
  rw [decide_eq_false (by omega)] at CLn
  have CSM := small_any a0 c0 A0 l0 Wa HE1.out.cs HE1.out.n
  refine wl <| gz1 (.slice ak L.length ck) ?_
  simp only [pu]
  refine gw_build (by kernel_rfl) (some 24) rfl 67 1 #[(0, .tmp 23)] rfl #[(0, .slice ak L.length ck)] (by kernel_rfl) (.slice (some ⟨W.heap.size, 0, none⟩) 1 1) _ hor ?_
  simp only [pu]
  refine gzc (.bool false) (fun w' => Wa = w') CLn (fun W2 hW => ?_)
  subst hW
  simp only [pu]
  refine gz1 (.bool false) <| gzl rfl ⟨g4, 0, none⟩ (.agg (lgA a0 A0.length c0 l0)) (load_lg HX41.out) <| gze (fun v w' => (∃ bq, v = .bool bq) ∧ Below Wa.heap.size Wa w') (CSM.mono fun e w' q => by obtain ⟨⟨bq, h1⟩, h2⟩ := q; exact ⟨_, h1, ⟨bq, rfl⟩, h2⟩) (fun vv W1 hq => ?_)
  obtain ⟨⟨bq, rfl⟩, hW1⟩ := hq
  simp only [pu]
  have HB1 := Lib.hid (HBa.out.trans (hW1.mono HBa.out.size))
  have HCK1 := Lib.hid (HCKa.out.below hW1)
  have HX42 := Lib.hid (HX41.out.below HX41.out.lt hW1)
  have HE2 := Lib.hid (HE1.out.below hW1)
  have HR2 := Lib.hid (HR1.out.below hW1)
  clear CLn hor CSM hW1 HCKa HX41 HE1 HR1
  cases bq
  ·skip
   refine gz6 (.bool true) (.bool true) (.bool true) undef undef undef <| gz1 (.bool true) <| wn ?_
   simp only [pu]
   go_upto_region 2 with fail
   refine wl <| gzc (.bool true) (fun w' => Below w.heap.size w w') (HK.out W1 (HB1.out)) (fun V9 hV9 => ?_)
   simp only [pu]
   refine gz1 (.bool true) <| wn ?_
   simp only [pu]
   have HE := Lib.hid hV9
   clear hV9
   go_wp2_with fail
   go_ret
   exact ⟨rfl, HE.out⟩
  ·skip
   by_cases hR3 : 300 < L2.length
   ·skip
    refine gz5 (.bool false) (.bool false) (.bool false) (.slice a2 L2.length c2) (.int .i64 L2.length) <| gzb (gtr_n rfl (L2.length) (300) dT) <| gz1 (.bool true) <| wn ?_
    simp only [pu]
    go_upto_region 2 with fail
    refine wl <| gzc (.bool true) (fun w' => Below w.heap.size w w') (HK.out W1 (HB1.out)) (fun V9 hV9 => ?_)
    simp only [pu]
    refine gz1 (.bool true) <| wn ?_
    simp only [pu]
    have HE := Lib.hid hV9
    clear hV9
    go_wp2_with fail
    go_ret
    exact ⟨rfl, HE.out⟩
   ·skip
    refine gz5 (.bool false) (.bool false) (.bool false) (.slice a2 L2.length c2) (.int .i64 L2.length) <| gzb (gtr_n rfl (L2.length) (300) dF) <| gz1 (.bool false) <| wn ?_
    simp only [pu]
    have CM := made_any ak ck L W1 HCK1.out (by omega)
    go_upto_region 3 with fail
    refine wl <| gz1 (.slice ak L.length ck) <|
     gze (fun v w' => ∃ la lk B cc p b d R gs, v = .tuple #[.agg (lgA la (List.length B) lk cc), .int .u64 p, .slice b (List.length R) d, .pointer (some ⟨gs, 0, none⟩)] ∧ Cs w' la (acc B) ∧ B.length ≤ lk ∧ LdQ B cc ∧ 0 ≤ p ∧ p ≤ 3 ∧ Rw w' (gs + 1) b d R ∧ NS w' gs ak ck L 160 ∧ W1.heap.size ≤ gs ∧ (acc B ≠ [] → ∀ x, la = some x → x.block ≠ gs) ∧ Below W1.heap.size W1 w') (CM.mono fun e w' q => by obtain ⟨la, lk, B, cc, p, b, d, R, gs, h1, h2⟩ := q; exact ⟨_, h1, la, lk, B, cc, p, b, d, R, gs, rfl, h2⟩) (fun vv V2 hq => ?_)
    obtain ⟨la, lk, B, cc, p, b, d, R, gs, rfl, hcs, hlk, hldq, hp0, hp3, hrw, hns, hgs, hne, hbm⟩ := hq
    obtain ⟨V3, hst3, hb3, hbx3⟩ := new_lg V2 la B.length lk cc
    simp only [pu]
    refine gz5 (.tuple #[.agg (lgA la B.length lk cc), .int .u64 p, .slice b R.length d, .pointer (some ⟨gs, 0, none⟩)]) (.agg (lgA la B.length lk cc)) (.int .u64 p) (.slice b R.length d) (.pointer (some ⟨gs, 0, none⟩)) ?_
    simp only [pu]
    refine run_to rfl (some 9) rfl (.pointer (some ⟨V2.heap.size, 0, none⟩)) (V2.alloc (.cells (lgA none 0 0 0) 25)) (by kernel_rfl) ?_
    simp only [pu]
    refine gzs rfl (hst3) <| gz3 (.int .u64 p) (.slice b R.length d) (.pointer (some ⟨gs, 0, none⟩)) <| wn ?_
    simp only [pu]
    obtain ⟨g3, hg3⟩ : ∃ g3, V2.heap.size = g3 := ⟨_, rfl⟩
    have hb13 := hbm.trans (hb3.mono hbm.size)
    have HLQ := Lib.hid hldq
    have HLK := Lib.hid hlk
    have HPW : Hid (W64 p) := Lib.hid ⟨hp0, by omega⟩
    have HP3 : Hid (0 ≤ p ∧ p ≤ 3) := Lib.hid ⟨hp0, hp3⟩
    have HGS : Hid (w.heap.size ≤ gs ∧ gs < g3 ∧ g3 < V3.heap.size) := Lib.hid ⟨Nat.le_trans HB1.out.size hgs, by rw [← hg3]; exact hns.lt, by rw [← hg3]; exact hbx3.lt⟩
    rw [hg3] at hbx3 ⊢
    have HX3 := Lib.hid hbx3
    have HBM := Lib.hid hb13
    have HB3 := Lib.hid (HB1.out.trans (hb13.mono HB1.out.size))
    have HC3 := Lib.hid (hcs.below hb3)
    have HRW3 := Lib.hid (hrw.below hb3)
    have HNS3 := Lib.hid (hns.below hb3)
    have HNE := Lib.hid hne
    have HRB : Hid (R ≠ [] → ∀ x, b = some x → x.block < g3) := Lib.hid fun h x hx => by rw [← hg3]; exact sl_lt hrw.sl h x hx
    have HLB : Hid (acc B ≠ [] → ∀ x, la = some x → x.block < g3) := Lib.hid fun h x hx => by rw [← hg3]; exact cs_old hcs h x hx
    clear CM hcs hlk hldq hp0 hp3 hrw hns hgs hne hbm hst3 hb3 hbx3 hb13 hg3
    obtain ⟨hWV, hX43⟩ : Below W1.heap.size W1 V3 ∧ Bx V3 g4 (lgA a0 A0.length c0 l0) 25 := ⟨HBM.out, HX42.out.below HX42.out.lt HBM.out⟩
    have HX43 := Lib.hid hX43
    have HE3 := Lib.hid (HE2.out.below HBM.out)
    have HR3 := Lib.hid (HR2.out.below HBM.out)
    have HF3 : Hid (LdE V3 la lk B cc) := Lib.hid ⟨HC3.out, HLK.out, by have := HLQ.out.n; omega, HLQ.out.cw, HLQ.out.w, HLQ.out.z⟩
    have HS3 : Hid (ByE V3 b d R) := Lib.hid ⟨HRW3.out.sl, HRW3.out.le, HRW3.out.b⟩
    have hbl := build_lg2 a0 la A0.length B.length c0 lk l0 cc V3
    have hb4 : Below V3.heap.size V3 (V3.alloc (.cells #[.slice a0 A0.length c0, .int .u64 l0, .slice la B.length lk, .int .u64 cc] 25)) := (Below.refl _ V3).alloc (Nat.le_refl _) _
    have hx46 : Bx (V3.alloc (.cells #[.slice a0 A0.length c0, .int .u64 l0, .slice la B.length lk, .int .u64 cc] 25)) V3.heap.size #[.slice a0 A0.length c0, .int .u64 l0, .slice la B.length lk, .int .u64 cc] 25 := heap_alloc_last V3 _
    generalize V3.alloc (.cells #[.slice a0 A0.length c0, .int .u64 l0, .slice la B.length lk, .int .u64 cc] 25) = V4 at *
    obtain ⟨g46, hg46⟩ : ∃ g, V3.heap.size = g := ⟨_, rfl⟩
    rw [hg46] at hx46 hbl
    clear hWV hX43 HE2 HR2 HX42 HC3 HRW3 HNS3 HRB HLB HNE
    go_upto_region 4 with fail
    refine wl <| gzl rfl ⟨g4, 0, none⟩ (.agg (lgA a0 A0.length c0 l0)) (load_lg HX43.out) <| gzl rfl ⟨g3, 0, none⟩ (.agg (lgA la B.length lk cc)) (load_lg HX3.out) ?_
    simp only [pu]
    refine gw_build (by kernel_rfl) (some 46) rfl 34 2 #[(0, .tmp 44), (1, .tmp 45)] rfl #[(0, .agg (lgA a0 A0.length c0 l0)), (1, .agg (lgA la B.length lk cc))] (by kernel_rfl) (.slice (some ⟨g46, 0, none⟩) 2 2) _ hbl ?_
    simp only [pu]
    refine gz2 (.int .i64 2) (.int .i64 0) <| wn ?_
    simp only [pu]
    have HX46 := Lib.hid hx46
    have HE4 := Lib.hid (HE3.out.below hb4)
    have HF4 := Lib.hid (HF3.out.below hb4)
    have HR4 := Lib.hid (HR3.out.below hb4)
    have HS4 := Lib.hid (HS3.out.below hb4)
    have HB4 := Lib.hid (HB3.out.trans (hb4.mono HB3.out.size))
    clear hbl hb4 hx46 hg46 HE3 HF3 HR3 HS3 HX43 HX3 HB3
    go_wp2_with fail
    go_loopg [48] 2 (fun gg s48 wx => ∃ i : Nat, s48 = .int .i64 i ∧ i ≤ 2 ∧ Hid (Below V4.heap.size V4 wx) ∧ 2 - i = gg)
    case atStart => exact ⟨0, rfl, by omega, Lib.hid (Below.refl _ _), by omega⟩
    case round =>
     obtain ⟨i, rfl, hi, HQ1, hg⟩ := hrel
     generalize wr = u1 at *
     by_cases hlt : i < 2
     ·skip
      obtain ⟨la1, lk1, A1, d1, hld, he1⟩ := ld_lg2 (HX46.out.below HX46.out.lt HQ1.out) HE4.out HF4.out hlt
      have HGi := Lib.hid hg
      have HLi := Lib.hid hlt
      obtain ⟨V5, hst, hb5, hbx⟩ := new_lg u1 la1 A1.length lk1 d1
      obtain ⟨g14, hg14⟩ : ∃ g, u1.heap.size = g := ⟨_, rfl⟩
      have hbq5 := HQ1.out.trans (hb5.mono HQ1.out.size)
      rw [hg14] at hbx
      have HG14 := Lib.hid hg14
      clear hg hi HQ1 hg14
      go_upto_region 5 with fail
      refine wl <| gzb (lss_n rfl (i) (2) dT) <| wn ?_
      simp only [pu]
      go_upto_region 6 with fail
      refine wl <| gzv (.pointer (some ⟨g46, 0 + i * 2, none⟩)) (idx_lg g46 0 2 2 i HLi.out _ _ _ rfl (by kernel_rfl) (by kernel_rfl)) <| gzl rfl ⟨g46, 0 + i * 2, none⟩ (.agg (lgA la1 A1.length lk1 d1)) (hld) ?_
      simp only [pu]
      refine run_to rfl (some 14) rfl (.pointer (some ⟨u1.heap.size, 0, none⟩)) (u1.alloc (.cells (lgA none 0 0 0) 25)) (by kernel_rfl) ?_
      simp only [pu]
      refine gzs rfl (hst) <| wn ?_
      rw [HG14.out]
      have hbl := build_bs2 a2 b L2.length R.length c2 d V5
      have hb6 : Below V5.heap.size V5 (V5.alloc (.cells #[.slice a2 L2.length c2, .slice b R.length d] 26)) := (Below.refl _ V5).alloc (Nat.le_refl _) _
      have hx54 : Bx (V5.alloc (.cells #[.slice a2 L2.length c2, .slice b R.length d] 26)) V5.heap.size #[.slice a2 L2.length c2, .slice b R.length d] 26 := heap_alloc_last V5 _
      have hx146 := hbx.below hbx.lt hb6
      generalize V5.alloc (.cells #[.slice a2 L2.length c2, .slice b R.length d] 26) = V6 at *
      obtain ⟨g54, hg54⟩ : ∃ g, V5.heap.size = g := ⟨_, rfl⟩
      rw [hg54] at hx54 hbl
      have hbq6 := hbq5.trans (hb6.mono hbq5.size)
      have HE6 := Lib.hid (he1.below hbq6)
      have HR6 := Lib.hid (HR4.out.below hbq6)
      have HS6 := Lib.hid (HS4.out.below hbq6)
      have HQ6 := Lib.hid hbq6
      have HX54 := Lib.hid hx54
      have HX14 := Lib.hid hx146
      clear hld he1 hst hb5 hbx HG14 hbq5 hb6 hx54 hx146 hbq6 hg54
      go_upto_region 7 with fail
      refine wl <| gz2 (.slice a2 L2.length c2) (.slice b R.length d) ?_
      simp only [pu]
      refine gw_build (by kernel_rfl) (some 54) rfl 35 2 #[(0, .tmp 52), (1, .tmp 53)] rfl #[(0, .slice a2 L2.length c2), (1, .slice b R.length d)] (by kernel_rfl) (.slice (some ⟨g54, 0, none⟩) 2 2) _ hbl ?_
      simp only [pu]
      refine gz2 (.int .i64 2) (.int .i64 0) <| wn ?_
      simp only [pu]
      clear hbl
      go_wp2_with fail
      go_loopg [56] 2 (fun gg s56 wx => ∃ i : Nat, s56 = .int .i64 i ∧ i ≤ 2 ∧ Hid (Below V6.heap.size V6 wx) ∧ 2 - i = gg)
      case atStart => exact ⟨0, rfl, by omega, Lib.hid (Below.refl _ _), by omega⟩
      case round =>
       obtain ⟨j, rfl, hi, HQ2, hg⟩ := hrel
       generalize wr = u2 at *
       by_cases hlt : j < 2
       ·skip
        obtain ⟨ra1, rc1, R1, hld, hr1⟩ := ld_bs2 (HX54.out.below HX54.out.lt HQ2.out) HR6.out HS6.out hlt
        have HGj := Lib.hid hg
        have HLj := Lib.hid hlt
        clear hg hi
        go_upto_region 8 with fail
        refine wl <| gzb (lss_n rfl (j) (2) dT) <| wn ?_
        simp only [pu]
        go_upto_region 9 with fail
        refine wl <| gzv (.pointer (some ⟨g54, 0 + j * 1, none⟩)) (idx_b g54 0 2 2 j HLj.out _ _ _ rfl (by kernel_rfl) (by kernel_rfl)) <| gzl rfl ⟨g54, 0 + j * 1, none⟩ (.slice ra1 R1.length rc1) (hld) <| gz1 (.slice ra1 R1.length rc1) <| wn ?_
        simp only [pu]
        have hbl := build_uu x1 p u2
        have hb7 : Below u2.heap.size u2 (u2.alloc (.cells #[.int .u64 x1, .int .u64 p] 23)) := (Below.refl _ u2).alloc (Nat.le_refl _) _
        have hx62 : Bx (u2.alloc (.cells #[.int .u64 x1, .int .u64 p] 23)) u2.heap.size #[.int .u64 x1, .int .u64 p] 23 := heap_alloc_last u2 _
        generalize u2.alloc (.cells #[.int .u64 x1, .int .u64 p] 23) = V7 at *
        obtain ⟨g62, hg62⟩ : ∃ g, u2.heap.size = g := ⟨_, rfl⟩
        rw [hg62] at hx62 hbl
        have hbq7 := HQ2.out.trans (hb7.mono HQ2.out.size)
        have HX62 := Lib.hid hx62
        have HE7 := Lib.hid (HE6.out.below hbq7)
        have HR7 := Lib.hid (hr1.below hbq7)
        have HX147 := Lib.hid (HX14.out.below HX14.out.lt hbq7)
        have HQ7 := Lib.hid hbq7
        clear hld hr1 hb7 hx62 hbq7 hg62 HQ2
        go_upto_region 10 with fail
        refine wl <| gz2 (.int .u64 x1) (.int .u64 p) ?_
        simp only [pu]
        refine gw_build (by kernel_rfl) (some 62) rfl 36 2 #[(0, .tmp 60), (1, .tmp 61)] rfl #[(0, .int .u64 x1), (1, .int .u64 p)] (by kernel_rfl) (.slice (some ⟨g62, 0, none⟩) 2 2) _ hbl ?_
        simp only [pu]
        refine gz2 (.int .i64 2) (.int .i64 0) <| wn ?_
        simp only [pu]
        clear hbl
        go_wp2_with fail
        go_loopg [64] 2 (fun gg s64 wx => ∃ i : Nat, s64 = .int .i64 i ∧ i ≤ 2 ∧ Hid (Below V7.heap.size V7 wx) ∧ 2 - i = gg)
        case atStart => exact ⟨0, rfl, by omega, Lib.hid (Below.refl _ _), by omega⟩
        case round =>
         obtain ⟨m, rfl, hi, HQ3, hg⟩ := hrel
         generalize wr = u3 at *
         by_cases hlt : m < 2
         ·skip
          obtain ⟨n1, hld, hn1⟩ := ld_uu (HX62.out.below HX62.out.lt HQ3.out) HP.out HPW.out hlt
          have HGm := Lib.hid hg
          have HLm := Lib.hid hlt
          have HE8 := Lib.hid (HE7.out.below HQ3.out)
          have HR8 := Lib.hid (HR7.out.below HQ3.out)
          have HX148 := Lib.hid (HX147.out.below HX147.out.lt HQ3.out)
          have CT := q_tx A1 d1 n1 R1 la1 ra1 lk1 rc1 u3 HE8.out.cs HE8.out.le HE8.out.n HE8.out.cw HE8.out.w HE8.out.z hn1 HR8.out.sl HR8.out.le HR8.out.b
          have CR := Lib.hid (fun V (hb : Below u3.heap.size u3 V) => ref_tx A1 d1 n1 R1 la1 ra1 lk1 rc1 V (HE8.out.cs.below hb) HE8.out.le HE8.out.n HE8.out.cw HE8.out.w HE8.out.z hn1 (sl_below HR8.out.sl hb) HR8.out.le HR8.out.b)
          have htl := tx_len (p := n1) HE8.out.n HE8.out.w HE8.out.cw hn1 HR8.out.b
          obtain ⟨X, hX⟩ : ∃ X, txX A1 d1 n1 R1 = X := ⟨_, rfl⟩
          rw [hX] at CT CR htl
          have HTL := Lib.hid htl
          clear hg hi hX htl
          go_upto_region 11 with fail
          refine wl <| gzb (lss_n rfl (m) (2) dT) <| wn ?_
          simp only [pu]
          go_upto_region 12 with fail
          refine wl <| gzv (.pointer (some ⟨g62, 0 + m * 1, none⟩)) (idx_w g62 0 2 2 m HLm.out _ _ _ rfl (by kernel_rfl) (by kernel_rfl)) <| gzl rfl ⟨g62, 0 + m * 1, none⟩ (.int .u64 n1) (hld) <| gz1 (.int .u64 n1) <| wn ?_
          simp only [pu]
          go_upto_region 13 with fail
          refine wl <| gzl rfl ⟨g14, 0, none⟩ (.agg (lgA la1 A1.length lk1 d1)) (load_lg HX148.out) <| gz2 (.int .u64 n1) (.slice ra1 R1.length rc1) <|
           gze (fun v w' => ∃ ad k, v = .tuple #[.agg (lgA ad X.1.1.length k X.1.2), .agg (resA X.2)] ∧ Cs w' ad (acc X.1.1) ∧ X.1.1.length ≤ k ∧ ((ad = la1 ∧ X.1.1 = A1) ∨ ∀ x, ad = some x → u3.heap.size ≤ x.block) ∧ Below u3.heap.size u3 w') (CT.mono fun e w' q => by obtain ⟨ad, k, h1, h2⟩ := q; exact ⟨_, h1, ad, k, rfl, h2⟩) (fun vv U4 hq => ?_)
          obtain ⟨ad, k, rfl, hct, hkt, hbl, hbt⟩ := hq
          obtain ⟨Va, Vb, Vc, hVa, hlt, hs6, hs7, hb7, hx4, hx5⟩ := new_lr U4 ad X.1.1.length k X.1.2 X.2
          simp only [pu]
          refine gz3 (.tuple #[.agg (lgA ad X.1.1.length k X.1.2), .agg (resA X.2)]) (.agg (lgA ad X.1.1.length k X.1.2)) (.agg (resA X.2)) ?_
          simp only [pu]
          refine run_to rfl (some 19) rfl (.pointer (some ⟨U4.heap.size, 0, none⟩)) (U4.alloc (.cells (lgA none 0 0 0) 25)) (by kernel_rfl) ?_
          simp only [pu]
          rw [hVa]
          refine run_to rfl (some 20) rfl (.pointer (some ⟨Va.heap.size, 0, none⟩)) (Va.alloc (.cells (resA (zRes 0)) 39)) (by kernel_rfl) ?_
          simp only [pu]
          refine gzs rfl (hs6) <| gzs rfl (hs7) <| wn ?_
          obtain ⟨g19, hga⟩ : ∃ g, U4.heap.size = g := ⟨_, rfl⟩
          obtain ⟨g20, hgb⟩ : ∃ g, Va.heap.size = g := ⟨_, rfl⟩
          have hbA := hbt.trans (hb7.mono hbt.size)
          have hgV : u3.heap.size ≤ g19 := by rw [← hga]; exact hbt.size
          have hgl : g19 < g20 := by rw [← hga, ← hgb]; exact hlt
          rw [hga] at hx4 ⊢
          rw [hgb] at hx5 ⊢
          have hcA := hct.below hb7
          have hltA : acc X.1.1 ≠ [] → ∀ x, ad = some x → x.block < g19 := fun hn x hx => by rw [← hga]; exact cs_old hct hn x hx
          clear hVa hlt hs6 hs7 hct hbt hga hgb hb7
          have HX19 := Lib.hid hx4
          have HX20 := Lib.hid hx5
          have HC19 := Lib.hid hcA
          have HBA := Lib.hid hbA
          have CRV := CR.out Vc hbA
          have HX149 := Lib.hid (HX148.out.below HX148.out.lt hbA)
          generalize Vc = Ud at *
          clear CT hld hgV hgl hx4 hx5 hbA hcA hltA hkt hbl CR HE8 HR8 HX148
          go_upto_region 14 with fail
          refine wl <| gzl rfl ⟨g14, 0, none⟩ (.agg (lgA la1 A1.length lk1 d1)) (load_lg HX149.out) <| gz2 (.int .u64 n1) (.slice ra1 R1.length rc1) <|
           gze (fun v w' => ∃ ad k, v = .tuple #[.agg (lgA ad X.1.1.length k X.1.2), .agg (resA X.2)] ∧ Cs w' ad (acc X.1.1) ∧ X.1.1.length ≤ k ∧ ((ad = la1 ∧ X.1.1 = A1) ∨ ∀ x, ad = some x → Ud.heap.size ≤ x.block) ∧ Below Ud.heap.size Ud w') (CRV.mono fun e w' q => by obtain ⟨ad, k, h1, h2⟩ := q; exact ⟨_, h1, ad, k, rfl, h2⟩) (fun vv U5 hq => ?_)
          obtain ⟨ad2, k2, rfl, hct, hkt, hbl, hbt⟩ := hq
          obtain ⟨Va, Vb, Vc, hVa, hlt, hs6, hs7, hb7, hx4, hx5⟩ := new_lr U5 ad2 X.1.1.length k2 X.1.2 X.2
          simp only [pu]
          refine gz3 (.tuple #[.agg (lgA ad2 X.1.1.length k2 X.1.2), .agg (resA X.2)]) (.agg (lgA ad2 X.1.1.length k2 X.1.2)) (.agg (resA X.2)) ?_
          simp only [pu]
          refine run_to rfl (some 21) rfl (.pointer (some ⟨U5.heap.size, 0, none⟩)) (U5.alloc (.cells (lgA none 0 0 0) 25)) (by kernel_rfl) ?_
          simp only [pu]
          rw [hVa]
          refine run_to rfl (some 22) rfl (.pointer (some ⟨Va.heap.size, 0, none⟩)) (Va.alloc (.cells (resA (zRes 0)) 39)) (by kernel_rfl) ?_
          simp only [pu]
          refine gzs rfl (hs6) <| gzs rfl (hs7) <| wn ?_
          obtain ⟨g21, hga⟩ : ∃ g, U5.heap.size = g := ⟨_, rfl⟩
          obtain ⟨g22, hgb⟩ : ∃ g, Va.heap.size = g := ⟨_, rfl⟩
          have hbA := hbt.trans (hb7.mono hbt.size)
          have hgV : Ud.heap.size ≤ g21 := by rw [← hga]; exact hbt.size
          have hgl : g21 < g22 := by rw [← hga, ← hgb]; exact hlt
          rw [hga] at hx4 ⊢
          rw [hgb] at hx5 ⊢
          have hcA := hct.below hb7
          have hltA : acc X.1.1 ≠ [] → ∀ x, ad2 = some x → x.block < g21 := fun hn x hx => by rw [← hga]; exact cs_old hct hn x hx
          clear hVa hlt hs6 hs7 hct hbt hga hgb hb7
          have HX21 := Lib.hid hx4
          have HX22 := Lib.hid hx5
          have hX20 := HX20.out.below HX20.out.lt hbA
          have hX19 := HX19.out.below HX19.out.lt hbA
          have CSL := ref_sameled X.1.1 X.1.2 ad ad2 k k2 Vc (HC19.out.below hbA) hcA HTL.out
          have HBB := Lib.hid ((HQ3.out.trans (HBA.out.mono HQ3.out.size)).trans (hbA.mono (HQ3.out.trans (HBA.out.mono HQ3.out.size)).size))
          clear hgV hgl hx4 hx5 hbA hcA hltA hkt hbl CRV HX19 HX20 HC19 HBA HQ3 HX149
          go_upto_region 15 with fail
          refine wl <| gzl rfl ⟨g20, 0, none⟩ (.agg (resA X.2)) (load_res hX20) <| gzl rfl ⟨g22, 0, none⟩ (.agg (resA X.2)) (load_res HX22.out) <| gzw (.bool false) (neq_res rfl X.2) <| gz1 (.bool false) <|
           gzl rfl ⟨g19, 0, none⟩ (.agg (lgA ad X.1.1.length k X.1.2)) (load_lg hX19) <| gzl rfl ⟨g21, 0, none⟩ (.agg (lgA ad2 X.1.1.length k2 X.1.2)) (load_lg HX21.out) <| gzc (.bool true) (fun w' => Below Vc.heap.size Vc w') CSL (fun V9 hV9 => ?_)
          simp only [pu]
          refine gz2 (.bool false) (.bool false) <| wn ?_
          simp only [pu]
          have HB9 := Lib.hid (HBB.out.trans (hV9.mono HBB.out.size))
          clear CSL hV9 HBB
          go_upto_region 17 with fail
          refine wl <| gzw (.int .i64 (m + 1 : Nat)) (add_nat rfl m 1 (by have := HLm.out; omega)) <| gz1 (.int .i64 (m + 1 : Nat)) <| wn ?_
          simp only [pu]
          go_wp2_with fail
          go_roundg (2 - (m + 1))
          case measure => have := HGm.out; have := HLm.out; omega
          case rel => exact ⟨m + 1, rfl, HLm.out, HB9, rfl⟩
         ·skip
          obtain rfl : 2 = m := by omega
          have HB9 := Lib.hid (HQ7.out.trans (HQ3.out.mono HQ7.out.size))
          go_upto_region 11 with fail
          refine wl <| gzb (lss_n rfl (2) (2) dF) <| wn ?_
          simp only [pu]
          go_upto_region 18 with fail
          refine wl <| gzw (.int .i64 (j + 1 : Nat)) (add_nat rfl j 1 (by have := HLj.out; omega)) <| gz1 (.int .i64 (j + 1 : Nat)) <| wn ?_
          simp only [pu]
          go_wp2_with fail
          go_roundg (2 - (j + 1))
          case measure => have := HGj.out; have := HLj.out; omega
          case rel => exact ⟨j + 1, rfl, HLj.out, HB9, rfl⟩
       ·skip
        obtain rfl : 2 = j := by omega
        have HB9 := Lib.hid (HQ6.out.trans (HQ2.out.mono HQ6.out.size))
        go_upto_region 8 with fail
        refine wl <| gzb (lss_n rfl (2) (2) dF) <| wn ?_
        simp only [pu]
        go_upto_region 19 with fail
        refine wl <| gzw (.int .i64 (i + 1 : Nat)) (add_nat rfl i 1 (by have := HLi.out; omega)) <| gz1 (.int .i64 (i + 1 : Nat)) <| wn ?_
        simp only [pu]
        go_wp2_with fail
        go_roundg (2 - (i + 1))
        case measure => have := HGi.out; have := HLi.out; omega
        case rel => exact ⟨i + 1, rfl, HLi.out, HB9, rfl⟩
     ·skip
      obtain rfl : 2 = i := by omega
      go_upto_region 5 with fail
      refine wl <| gzb (lss_n rfl (2) (2) dF) <| wn ?_
      simp only [pu]
      go_upto_region 20 with fail
      refine wl <| gzc (.bool true) (fun w' => Below w.heap.size w w') (HK.out u1 (HB4.out.trans (HQ1.out.mono HB4.out.size))) (fun V9 hV9 => ?_)
      simp only [pu]
      refine gz1 (.bool true) <| wn ?_
      simp only [pu]
      have HE := Lib.hid hV9
      clear hV9
      go_wp2_with fail
      go_ret
      exact ⟨rfl, HE.out⟩
end Go.Proofs.YtglglhcnofbagaaGreat.Lg
namespace Go.Proofs.YtglglhcnofbagaaGreat.Lg.applyTx
set_option maxRecDepth 100000
open Go.ChangeShapes Go.WideShapes Go.ChangeAt Go.RowKit
set_option linter.unusedVariables false

theorem own : ownKnob Tryz.prog.godebug = none := by kernel_rfl
theorem size_list (x : ByteArray) : x.data.toList.length = x.size := Array.length_toList
theorem laidOut : laidOutB Tryz.prog = true := by kernel_rfl

theorem walk (a0 : Option Addr) (c0 : Nat) (A0 : List Ac) (l0 : Int) (x1 : Int) (a2 : Option Addr) (c2 : Nat) (L2 : List Int) (a3 : Option Addr) (c3 : Nat) (L3 : List Int) (w : World) (k0 : A0.length ≤ c0) (n0 : A0.length * 32 ≤ 140737488351232) (r0 : Cs w a0 (acc A0)) (b0 : ∀ x, x ∈ A0 → (W64 x.2.1 ∧ W64 x.2.2) ∧ x.1.size ≤ 140737488355328) (g0 : W64 l0) (w1 : (Lit.int .u64 x1).wf = true) (r2 : Sl w a2 c2 L2) (l2 : L2.length ≤ c2) (b2 : ∀ x, x ∈ L2 → W8 x) (l3 : L3.length ≤ 9223372036854775807) (r3 : Cs w a3 (icells L3)) :
    Calls Tryz.prog 3 #[.agg (lgA a0 A0.length c0 l0), .int .u64 x1, .slice a2 L2.length c2, .slice a3 L3.length c3] w fun e w' => e = .returned (.bool true) ∧ Below w.heap.size w w' := by
  exact tx_core a0 c0 A0 l0 x1 a2 c2 L2 a3 c3 L3 w ⟨r0, k0, by omega, g0, acw_of fun x hx => (b0 x hx).1, fun x hx => (b0 x hx).2⟩ (u64_of_wf w1) ⟨r2, l2, b2⟩ l3 r3

set_option maxRecDepth 100000 in
set_option maxHeartbeats 1000000 in
theorem contract (H : Type) (enc : TypeId × Value → H) (W : World) (base : Nat) (args : Array Value) (ds gs : List (DataW H)) (before : List MemPlace)
    (hval0 : ∀ (j : Nat) t v, Tryz.f3.params[j]? = some t → args[j]? = some v → Value.okWide Tryz.prog W .any base t v)
    (hW : DataW.Whole enc Tryz.prog Tryz.f3.params.toList Rows.applyTxSpec.vars false W args.toList ds gs before)
    (hz : (DataW.weightsEach Tryz.prog (Tryz.f3.params.toList ++ Rows.applyTxSpec.plain.varTypes Tryz.prog) (ds ++ gs)).all (· ≤ reachBytes) = true) :
    Calls Tryz.prog 3 args W fun e W' => ∃ v, e = .returned v ∧ Rows.applyTxSpec.post enc Tryz.prog Tryz.f3 false true false false W args v W' := by
  have hval := hval0
  have hW' := hW
  obtain ⟨p, q, hA0, hV, rfl, hfz, hnd⟩ := hW
  have hA := hA0
  rw [Tryz.params3] at hA hval
  obtain ⟨v0, vs0, d0, ds0, p0, q0, hargs, rfl, rfl, h0, rr0⟩ := trodAll_cons hA
  obtain ⟨v1, vs1, d1, ds1, p1, q1, rfl, rfl, rfl, h1, rr1⟩ := trodAll_cons rr0
  obtain ⟨v2, vs2, d2, ds2, p2, q2, rfl, rfl, rfl, h2, rr2⟩ := trodAll_cons rr1
  obtain ⟨v3, vs3, d3, ds3, p3, q3, rfl, rfl, rfl, h3, rr3⟩ := trodAll_cons rr2
  obtain ⟨rfl, rfl, rfl⟩ := trodAll_nil rr3
  obtain rfl : args = #[v0, v1, v2, v3] := by cases args; simp_all
  obtain ⟨rfl, rfl⟩ := trodVars_none hV
  have k0 := h0
  have lt0 : ∀ x ∈ p0, x.block < W.heap.size := by obtain ⟨m, hm⟩ := k0; exact DataW.trod_lt m _ _ _ hm
  obtain ⟨⟨cs0⟩, rfl, _⟩ := okWide_struct Tryz.underlying25 (hval 0 25 v0 rfl rfl)
  obtain ⟨_, hf0⟩ := h0
  obtain ⟨a0, c0, A0, l0, e0, k0c, n0, r0, b0, g0⟩ := led_arg hf0 (fun n hn => of_decide_eq_true (List.all_eq_true.1 hz _ (DataW.weights_mem_each (j := 0) (t := 25) (by kernel_rfl) rfl n hn)))
  simp only [Value.cells] at e0
  subst e0
  obtain ⟨x1, rfl, rfl, rfl, w1⟩ := open_int Tryz.underlying23 (hval 1 23 v1 rfl rfl) h1
  have k2 := h2
  have lt2 : ∀ x ∈ p2, x.block < W.heap.size := by obtain ⟨m, hm⟩ := k2; exact DataW.trod_lt m _ _ _ hm
  obtain ⟨a2, _, c2, rfl⟩ := okWide_slice Tryz.underlying26 (hval 2 26 v2 rfl rfl)
  obtain ⟨_, hf2⟩ := h2
  obtain ⟨_, _, L2, e2, l2, r2, b2⟩ := bytes_arg hf2
  simp only [Value.cells, List.cons.injEq, Value.slice.injEq, and_true] at e2
  obtain ⟨rfl, rfl, rfl⟩ := e2
  have k3 := h3
  have lt3 : ∀ x ∈ p3, x.block < W.heap.size := by obtain ⟨m, hm⟩ := k3; exact DataW.trod_lt m _ _ _ hm
  obtain ⟨a3, _, c3, rfl⟩ := okWide_slice Tryz.underlying27 (hval 3 27 v3 rfl rfl)
  obtain ⟨_, hf3⟩ := h3
  obtain ⟨_, _, L3, e3, l3, r3⟩ := ints_arg hf3
  simp only [Value.cells, List.cons.injEq, Value.slice.injEq, and_true] at e3
  obtain ⟨rfl, rfl, rfl⟩ := e3
  clear hA0 hval0
  refine (walk a0 c0 A0 l0 x1 a2 c2 L2 a3 c3 L3 W k0c n0 r0 b0 g0 w1 r2 l2 b2 l3 r3).mono fun e W' ⟨he, bel⟩ => ?_
  subst he
  exact ⟨_, rfl, _, _, _, [], _, [], hW', trodAll_mk1 (shut_bool Tryz.underlying4 _), (trodAll_cons_mk (Below.trod laidOut (by kernel_rfl) (of_decide_eq_true (by kernel_rfl)) k0 bel lt0) (trodAll_cons_mk (shut_int Tryz.underlying23 w1) (trodAll_cons_mk (Below.trod laidOut (by kernel_rfl) (of_decide_eq_true (by kernel_rfl)) k2 bel lt2) (trodAll_cons_mk (Below.trod laidOut (by kernel_rfl) (of_decide_eq_true (by kernel_rfl)) k3 bel lt3) trodAll_mk0)))), rfl, bel.frame _, fun h => by cases h⟩

set_option maxRecDepth 100000 in
theorem lifted (os : Os) (started : os.Started) (H : Type) (enc : TypeId × Value → H) :
    ReturnsInHanded {} Tryz.checked os 3 .any (Rows.applyTxSpec.pre6 enc Tryz.prog Tryz.f3 Rows.applyTxRow.domain false) (Rows.applyTxSpec.post enc Tryz.prog Tryz.f3 false true false false) := by
  refine returnsInHanded_of_change_sized (C := Tryz.checked) own started (by kernel_rfl) Tryz.func3
    (ChangeSpec.witness6 (enc := enc) (C := Tryz.checked) false ⟨#[], #[.agg #[.slice none 0 0, .int .u64 0], .int .u64 0, .slice none 0 0, .slice none 0 0], []⟩ 8 (by kernel_rfl) (by kernel_rfl) (by kernel_rfl) (by kernel_rfl)) ?_
  intro W base args ds gs before hval hW _ hz _
  exact contract H enc W base args ds gs before hval hW hz

/-- THE STATEMENT -/
theorem proved : Rows.ApplyTxSaid :=
  OpenClaim.holds_of_wide 3 Tryz.f3 rfl rfl rfl rfl rfl rfl rfl ⟨rfl, rfl, rfl, rfl, rfl⟩ rfl rfl rfl rfl rfl (by kernel_rfl) Tryz.func3 (by kernel_rfl)
    (of_decide_eq_true (by kernel_rfl)) (by unfold Func.isWrapper; first | (rw [if_pos (by decide +kernel)]; kernel_rfl) | (rw [if_neg (by decide +kernel)]; exact ⟨rfl, rfl⟩))
    (fun os started H enc _ => lifted os started H enc)
#print axioms proved
end Go.Proofs.YtglglhcnofbagaaGreat.Lg.applyTx
