/-
  ApplyErrors returns true for every input: the first error of transactions with fees, gas, sequences and amounts at their limits; the arguments read afterwards as before.
  Conditions: none beyond the statement's own: the bound on a word's bytes is the reading's own reach.
-/
import Derived.Test.YtglglhcnofbagaaGreatK30
import Derived.Test.YtglglhcnofbagaaGreatK26
import Derived.WalkKit
import Derived.Test.YtglglhcnofbagaaGreatRows
import Derived.ProofKit
import Derived.OpenShut
import Derived.ShutString
import Derived.ChangeOld
import Derived.ChangeMaps5
import Derived.SizedLaws
import Derived.Below
namespace Go.Proofs.YtglglhcnofbagaaGreat.Lg
attribute [local irreducible] wpList wpQuiet
set_option maxRecDepth 100000
open Mo (usedV prioV mulB mulV)
open Go.RowKit
set_option linter.unusedSimpArgs false
set_option linter.unusedVariables false

theorem w64_wrap (x : Int) : W64 (IntKind.u64.wrap x) := by rw [IntKind.wrap_u64]; exact ⟨by omega, by omega⟩
theorem w64_max : W64 18446744073709551615 := ⟨by decide, by decide⟩
theorem mul_w {a b : Int} (ha : W64 a) (hb : W64 b) : W64 (mulV a b) := by
 unfold mulV
 split
 ·rename_i h
  exact ⟨Int.mul_nonneg ha.1 hb.1, by omega⟩
 ·exact w64_0
theorem used_w (a b : Int) : W64 (usedV a b) := by have := Mo.used_range a b; exact ⟨by omega, by omega⟩
theorem getX_w {A : List Ac} (hw : AcW A) (s : ByteArray) : W64 (getX A s).1.2.1 ∧ W64 (getX A s).1.2.2 := by
 have h := getA_w hw s
 rw [getA_getX] at h
 exact ⟨h.1, h.2.1⟩
section
variable {ρ : Operand → Value} {o : Oper} {x y : Operand}
theorem sub_uw (ho : o.op = .binOp .sub 23 x y 23) (a b : Int) (hx : ρ x = .int .u64 a) (hy : ρ y = .int .u64 b) (w : World) : (execOp ρ o).run Tryz.prog w = .ok (.value (.int .u64 (IntKind.u64.wrap (a - b)))) w := by
 unfold execOp
 simp only [ho, hx, hy]
 go_simp
theorem add_uw (ho : o.op = .binOp .add 23 x y 23) (a b : Int) (hx : ρ x = .int .u64 a) (hy : ρ y = .int .u64 b) (w : World) : (execOp ρ o).run Tryz.prog w = .ok (.value (.int .u64 (IntKind.u64.wrap (a + b)))) w := by
 unfold execOp
 simp only [ho, hx, hy]
 go_simp
theorem neg_uw (ho : o.op = .unOp .neg 23 x) (a : Int) (hx : ρ x = .int .u64 a) (w : World) : (execOp ρ o).run Tryz.prog w = .ok (.value (.int .u64 (IntKind.u64.wrap (-a)))) w := by
 unfold execOp
 simp only [ho, hx]
 go_simp
theorem conv_iu9 (ho : o.op = .convert 3 23 x) (a : Int) (hx : ρ x = .int .i64 a) (w : World) : (execOp ρ o).run Tryz.prog w = .ok (.value (.int .u64 (IntKind.u64.wrap a))) w := by
 unfold execOp
 simp only [ho, hx]
 go_simp
theorem eql_res (ho : o.op = .binOp .eql 39 x y 39) (r : Res) (hx : ρ x = .agg (resA r)) (hy : ρ y = .agg (resA r)) (w : World) : (execOp ρ o).run Tryz.prog w = .ok (.value (.bool true)) w := by
 unfold execOp
 simp only [ho, hx, hy]
 go_simp
theorem idx_w (b off n c k : Nat) (hk : k < n) (V : World) (ho : o.op = .indexAddr 36 x y) (hx : ρ x = .slice (some ⟨b, off, none⟩) n c) (hy : ρ y = .int .i64 k) : (execOp ρ o).run Tryz.prog V = .ok (.value (.pointer (some ⟨b, off + k * 1, none⟩))) V := by
 have hs : (sizeOf (Tryz.prog.elem 36)).run Tryz.prog V = .ok 1 V := by kernel_rfl
 have hlm : (k : Int) < (n : Int) := by omega
 unfold execOp
 simp only [ho, hx, hy]
 go_simp
end
/-- Words as cells. -/
abbrev wds (L : List Int) : Array Value := (L.map (Value.int .u64)).toArray
theorem build_w5 (x0 x1 x2 x3 x4 : Int) (V : World) : (Instr.buildSlice 36 5 #[(0, .int .u64 x0), (1, .int .u64 x1), (2, .int .u64 x2), (3, .int .u64 x3), (4, .int .u64 x4)]).run Tryz.prog V = .ok (.slice (some ⟨V.heap.size, 0, none⟩) 5 5) (V.alloc (.cells (wds [x0, x1, x2, x3, x4]) 23)) := by
 obtain ⟨i0, hi, hz0, hz1, hz2⟩ := info_parts infoU
 refine run_buildSlice V 36 23 5 _ _ i0 _ Tryz.underlying36 hi hz0 (by rw [hz1]; omega) (by rw [hz1]; omega) ?_
 rw [hz1]
 kernel_rfl
theorem build_w6 (x0 x1 x2 x3 x4 x5 : Int) (V : World) : (Instr.buildSlice 36 6 #[(0, .int .u64 x0), (1, .int .u64 x1), (2, .int .u64 x2), (3, .int .u64 x3), (4, .int .u64 x4), (5, .int .u64 x5)]).run Tryz.prog V = .ok (.slice (some ⟨V.heap.size, 0, none⟩) 6 6) (V.alloc (.cells (wds [x0, x1, x2, x3, x4, x5]) 23)) := by
 obtain ⟨i0, hi, hz0, hz1, hz2⟩ := info_parts infoU
 refine run_buildSlice V 36 23 6 _ _ i0 _ Tryz.underlying36 hi hz0 (by rw [hz1]; omega) (by rw [hz1]; omega) ?_
 rw [hz1]
 kernel_rfl
theorem ld_ws {V : World} {g : Nat} {L : List Int} (h : Bx V g (wds L) 23) (hw : ∀ x, x ∈ L → W64 x) {i : Nat} (hi : i < L.length) : ∃ y, (Instr.loadAt 23 (.pointer (some ⟨g, 0 + i * 1, none⟩))).run Tryz.prog V = .ok (.int .u64 y) V ∧ W64 y := by
 refine ⟨L[i], ?_, hw _ (List.getElem_mem hi)⟩
 rw [show 0 + i * 1 = i by omega]
 exact h.load (i := i) (by simp [hi]) (by kernel_rfl)
theorem mem_w {a : Int} {L : List Int} (h : W64 a) (hL : ∀ x, x ∈ L → W64 x) : ∀ x, x ∈ a :: L → W64 x := fun x hx => by
 rcases List.mem_cons.1 hx with e | e
 ·rw [e]; exact h
 ·exact hL x e
/-- A region that reads (L), builds a row of words (B), takes one (I, Y) and stores it (S): three worlds. -/
structure KR5 (bL bB bI bY bS : Bool) (W0 W1 W2 V : World) : Prop where
 o1 : bB = true → bL = true
 o2 : bI = true → bB = true
 o3 : bY = true → bI = true
 o4 : bS = true → bY = true
 is : V = cond bS W2 (cond bB W1 W0)
section
variable {bL bB bI bY bS : Bool} {W0 W1 W2 V : World}
theorem KR5.start : KR5 false false false false false W0 W1 W2 W0 := ⟨(fun e => nomatch e), (fun e => nomatch e), (fun e => nomatch e), (fun e => nomatch e), rfl⟩
theorem KR5.l0 (h : KR5 false bB bI bY bS W0 W1 W2 V) : bB = false ∧ bI = false ∧ bY = false ∧ bS = false ∧ V = W0 := by
 obtain rfl := ff h.o1 rfl
 obtain rfl := ff h.o2 rfl
 obtain rfl := ff h.o3 rfl
 obtain rfl := ff h.o4 rfl
 exact ⟨rfl, rfl, rfl, rfl, h.is⟩
theorem KR5.l1 (h : KR5 false false false false false W0 W1 W2 V) : KR5 true false false false false W0 W1 W2 V := ⟨fun _ => rfl, h.o2, h.o3, h.o4, h.is⟩
theorem KR5.b0 (h : KR5 true false bI bY bS W0 W1 W2 V) : bI = false ∧ bY = false ∧ bS = false ∧ V = W0 := by
 obtain rfl := ff h.o2 rfl
 obtain rfl := ff h.o3 rfl
 obtain rfl := ff h.o4 rfl
 exact ⟨rfl, rfl, rfl, h.is⟩
theorem KR5.b1 : KR5 true true false false false W0 W1 W2 W1 := ⟨fun _ => rfl, fun _ => rfl, (fun e => nomatch e), (fun e => nomatch e), rfl⟩
theorem KR5.i0 (h : KR5 bL bB false bY bS W0 W1 W2 V) : bY = false ∧ bS = false := by
 obtain rfl := ff h.o3 rfl
 obtain rfl := ff h.o4 rfl
 exact ⟨rfl, rfl⟩
theorem KR5.i1 (h : KR5 bL true false false false W0 W1 W2 V) : KR5 bL true true false false W0 W1 W2 V := ⟨h.o1, fun _ => rfl, fun _ => rfl, h.o4, h.is⟩
theorem KR5.y0 (h : KR5 bL bB true false bS W0 W1 W2 V) : bB = true ∧ bS = false ∧ V = W1 := by
 obtain rfl := h.o2 rfl
 obtain rfl := ff h.o4 rfl
 exact ⟨rfl, rfl, h.is⟩
theorem KR5.y1 (h : KR5 bL bB true false false W0 W1 W2 V) : KR5 bL bB true true false W0 W1 W2 V := ⟨h.o1, h.o2, fun _ => rfl, fun _ => rfl, h.is⟩
theorem KR5.s0 (h : KR5 bL bB bI true false W0 W1 W2 V) : bB = true ∧ V = W1 := by
 obtain rfl := h.o3 rfl
 obtain rfl := h.o2 rfl
 exact ⟨rfl, h.is⟩
theorem KR5.s1 (h : KR5 bL bB bI true false W0 W1 W2 V) : KR5 bL bB bI true true W0 W1 W2 W2 := ⟨h.o1, h.o2, h.o3, fun _ => rfl, rfl⟩
theorem KR5.all (h : KR5 bL bB bI bY bS W0 W1 W2 V) (P : World → Prop) (h0 : P W0) (h1 : P W1) (h2 : P W2) : P V := by
 rw [h.is]
 cases bS
 ·cases bB
  ·exact h0
  ·exact h1
 ·exact h2
end
/-- What the walk carries: the ledger, the transaction, the account. -/
structure ES (w : World) (g3 g17 g18 : Nat) (la : Option Addr) (lk : Nat) (B : List Ac) (cc : Int) (y : Ac) (t : Txd) (a : Option Addr) (c : Nat) (V : World) : Prop where
 bel : Below w.heap.size w V
 x3 : Bx V g3 (lgA la B.length lk cc) 25
 cl : Cs V la (acc B)
 x17 : Bx V g17 (txA t a c) 46
 x18 : Bx V g18 (acA y) 49
 tr : Cs V a (tfc t.tr)
section
variable {w : World} {g3 g17 g18 : Nat} {la : Option Addr} {lk : Nat} {B : List Ac} {cc : Int} {y : Ac} {t t' : Txd} {a : Option Addr} {c : Nat} {V V2 : World}
theorem ES.below (h : ES w g3 g17 g18 la lk B cc y t a c V) (hb : Below V.heap.size V V2) : ES w g3 g17 g18 la lk B cc y t a c V2 := ⟨h.bel.trans (hb.mono h.bel.size), h.x3.below h.x3.lt hb, h.cl.below hb, h.x17.below h.x17.lt hb, h.x18.below h.x18.lt hb, h.tr.below hb⟩
theorem ES.drew (h : ES w g3 g17 g18 la lk B cc y t a c V) : ES w g3 g17 g18 la lk B cc y t a c V.drew := h.below (Below.refl _ V).drew
theorem ES.st (h : ES w g3 g17 g18 la lk B cc y t a c V) {i ty : Nat} {v : Value} (hg : w.heap.size ≤ g17) (h3 : g3 ≠ g17) (h18 : g18 ≠ g17) (hl : acc B ≠ [] → ∀ x, la = some x → x.block < g17) (ht : tfc t.tr ≠ [] → ∀ x, a = some x → x.block < g17) (hi : i < 6) (h1 : v.oneCell' = true) (hs : (Tryz.prog.info? ty).map (·.size) = some 1) (hc : (txA t a c).setIfInBounds i v = txA t' a c) (he : t'.tr = t.tr) :
  ∃ V2, (Instr.storeAt ty (.pointer (some ⟨g17, i, none⟩)) v).run Tryz.prog V = .ok () V2 ∧ ES w g3 g17 g18 la lk B cc y t' a c V2 := by
 obtain ⟨V2, hst, hX, hb, hbt⟩ := st_cell h.x17 h.bel hg hi h1 hs hc
 exact ⟨V2, hst, hb, h.x3.but hbt h3, cs_butn h.cl hbt (fun hn x hx => by have := hl hn x hx; omega), hX, h.x18.but hbt h18, by rw [he]; exact cs_butn h.tr hbt (fun hn x hx => by have := ht hn x hx; omega)⟩
end
theorem nil_tfs (w : World) : (Instr.buildSlice 44 0 #[]).run Tryz.prog w = .ok (.slice (some ⟨w.heap.size, 0, none⟩) 0 0) (w.alloc (.cells #[] 59)) := build_nil Tryz.underlying44 infoT w
theorem app_tfs {w : World} {B : Nat} {v : Value} (h : RowT w B v []) (hB : B ≤ w.heap.size) (pa : Option Addr) (cp : Nat) (M : List Tf) (hP : Cs w pa (tfc M)) (hl : M.length ≤ 1000) :
  ∃ a c V2, (Builtin.append_ #[44, 44] 44 #[v, .slice pa M.length cp]).run Tryz.prog w = .ok (.slice a M.length c) V2 ∧ RowT V2 B (.slice a M.length c) M ∧ Below B w V2 := by
 obtain ⟨v2, V2, hr, hO, hb, -, -⟩ := append_big (P := Tryz.prog) (t := 44) (e := 59) (m := M.length) (s := 2) (bytes := 24) Tryz.underlying44 infoT (by kernel_rfl) (by omega) h pa cp (tfc M) hP (tfc_len M) (tfc_one M) hB (by omega) (by simp only [List.length_nil]; omega)
 have hO2 : RowT V2 B v2 M := by
  unfold RowT
  have h2 := hO
  simp only [List.length_nil, Nat.zero_add] at h2
  exact h2
 obtain ⟨a, c, e, -, -⟩ := own_cs hO2
 subst e
 exact ⟨a, c, V2, by simpa using hr, hO2, hb⟩
theorem row_some {w : World} {B n c : Nat} {a : Option Addr} {M : List Tf} (h : RowT w B (.slice a n c) M) (hn : 1 ≤ M.length) : ∃ g, a = some ⟨g, 0, none⟩ ∧ B ≤ g := by
 rcases h.2 with ⟨e, h0⟩ | ⟨g, cap, cur, e, hB, -⟩
 ·omega
 ·simp only [Value.slice.injEq] at e
  exact ⟨g, e.1, hB⟩
theorem tfc_set : ∀ (M : List Tf) (i : Nat) (v : Int), i < M.length → (tfc M).set (i * 2 + 1) (.int .u64 v) = tfc (M.set i ((tfa M i).1, v))
 | [], i, v, h => absurd h (by simp)
 | x :: r, 0, v, _ => rfl
 | x :: r, i + 1, v, h => by
  rw [List.set_cons_succ, tfc_cons, tfc_cons, show (i + 1) * 2 + 1 = (i * 2 + 1) + 1 + 1 by omega, List.set_cons_succ, List.set_cons_succ, tfc_set r i v (by simpa using h)]
  rfl
theorem trW_set : ∀ (M : List Tf) (i : Nat) (v : Int), trW (M.set i ((tfa M i).1, v)) = trW M
 | [], _, _ => rfl
 | x :: r, 0, v => rfl
 | x :: r, i + 1, v => by
  rw [List.set_cons_succ, trW, trW]
  have := trW_set r i v
  show 60 + x.1.size + trW (r.set i ((tfa r i).1, v)) = _
  rw [this]
theorem set_am {w : World} {B g n c : Nat} {M : List Tf} (h : RowT w B (.slice (some ⟨g, 0, none⟩) n c) M) (hn : n = M.length) (hm : 0 < M.length) (v : Int) :
  ∃ V2, (Instr.storeAt 23 (.pointer (some ⟨g, 0 + 0 * 2 + 1, none⟩)) (.int .u64 v)).run Tryz.prog w = .ok () V2 ∧ RowT V2 B (.slice (some ⟨g, 0, none⟩) n c) (M.set 0 ((tfa M 0).1, v)) ∧ Below B w V2 ∧ But g w V2 := by
 subst hn
 obtain ⟨cur, hcur, hz, hB, -⟩ := own_blk h
 have hst := run_store_cell (i := 0 + 0 * 2 + 1) (ty := 23) (v := .int .u64 v) hcur (by omega) rfl (by kernel_rfl)
 refine ⟨_, hst, ?_, (Below.refl B w).setCell hB _, But.setCell _ _ _⟩
 have ho := own_set h (0 * 2 + 1) (.int .u64 v) (by rw [tfc_len]; omega)
 rw [tfc_set M 0 v hm] at ho
 unfold RowT
 rw [List.length_set]
 simpa using ho
set_option maxRecDepth 100000 in
set_option maxHeartbeats 8000000 in
theorem errors_core (ak : Option Addr) (ck : Nat) (L : List Int) (x1 x2 x3 x4 x5 : Int) (w : World) (hl : L.length ≤ 9223372036854775807) (hk : Cs w ak (icells L)) :
  Calls Tryz.prog 4 #[.slice ak L.length ck, .int .i64 x1, .int .i64 x2, .int .i64 x3, .int .i64 x4, .int .i64 x5] w fun e w' => e = .returned (.bool true) ∧ Below w.heap.size w w' := by
 have HNL := Lib.hid hl
 have HCK := Lib.hid hk
 have HK := Lib.hid (fun (V : World) (h : Below w.heap.size w V) => (known_true q_tx V).mono fun e w' (q : e = .returned (.bool true) ∧ Below V.heap.size V w') => (⟨q.1, h.trans (q.2.mono h.size)⟩ : e = .returned (.bool true) ∧ Below w.heap.size w w'))
 clear hl hk
 go_enter Tryz.func4, Tryz.ntmps4
 go_upto_region 1 with fail
 have CLn := long_one w.heap.size ak L.length ck (w.alloc (.cells #[.slice ak L.length ck] 27)) (heap_alloc_last w _) HNL.out
 have hor := one_row ak L.length ck w
 have hb1 : Below w.heap.size w (w.alloc (.cells #[.slice ak L.length ck] 27)) := (Below.refl _ w).alloc (Nat.le_refl _) _
 have HCK1 := Lib.hid (HCK.out.below hb1)
 generalize w.alloc (.cells #[.slice ak L.length ck] 27) = W1 at *
 have HB1 := Lib.hid hb1
 clear hb1
 by_cases hL : 160 < L.length
 ·skip
  rw [decide_eq_true (by omega)] at CLn
  refine wl <| gz1 (.slice ak L.length ck) ?_
  simp only [pu]
  refine gw_build (by kernel_rfl) (some 32) rfl 67 1 #[(0, .tmp 31)] rfl #[(0, .slice ak L.length ck)] (by kernel_rfl) (.slice (some ⟨w.heap.size, 0, none⟩) 1 1) _ hor ?_
  simp only [pu]
  refine gzc (.bool true) (fun w' => W1 = w') CLn (fun W2 hW => ?_)
  subst hW
  simp only [pu]
  apply wpList_nil
  clear CLn hor
  go_upto_region 2 with fail
  refine wl <| gzc (.bool true) (fun w' => Below w.heap.size w w') (HK.out W1 (HB1.out)) (fun V9 hV9 => ?_)
  simp only [pu]
  refine gz1 (.bool true) <| wn ?_
  simp only [pu]
  have HE := Lib.hid hV9
  clear hV9
  go_wp2_with fail
  go_ret
  exact ⟨rfl, HE.out⟩
 rw [decide_eq_false (by omega)] at CLn
 refine wl <| gz1 (.slice ak L.length ck) ?_
 simp only [pu]
 refine gw_build (by kernel_rfl) (some 32) rfl 67 1 #[(0, .tmp 31)] rfl #[(0, .slice ak L.length ck)] (by kernel_rfl) (.slice (some ⟨w.heap.size, 0, none⟩) 1 1) _ hor ?_
 simp only [pu]
 refine gzc (.bool false) (fun w' => W1 = w') CLn (fun W2 hW => ?_)
 subst hW
 simp only [pu]
 apply wpList_nil
 clear CLn hor
 have CM := made_any ak ck L W1 HCK1.out (by omega)
 go_upto_region 3 with fail
 refine wl <| gz1 (.slice ak L.length ck) <|
  gze (fun v w' => ∃ la lk B cc p b d R gs, v = .tuple #[.agg (lgA la (List.length B) lk cc), .int .u64 p, .slice b (List.length R) d, .pointer (some ⟨gs, 0, none⟩)] ∧ Cs w' la (acc B) ∧ B.length ≤ lk ∧ LdQ B cc ∧ 0 ≤ p ∧ p ≤ 3 ∧ Rw w' (gs + 1) b d R ∧ NS w' gs ak ck L 160 ∧ W1.heap.size ≤ gs ∧ (acc B ≠ [] → ∀ x, la = some x → x.block ≠ gs) ∧ Below W1.heap.size W1 w') (CM.mono fun e w' q => by obtain ⟨la, lk, B, cc, p, b, d, R, gs, h1, h2⟩ := q; exact ⟨_, h1, la, lk, B, cc, p, b, d, R, gs, rfl, h2⟩) (fun vv V2 hq => ?_)
 obtain ⟨la, lk, B, cc, p, b, d, R, gs, rfl, hcs, hlk, hldq, hp0, hp3, hrw, hns, hgs, hne, hbm⟩ := hq
 obtain ⟨V3, hst3, hb3, hbx3⟩ := new_lg V2 la B.length lk cc
 simp only [pu]
 refine gz5 (.tuple #[.agg (lgA la B.length lk cc), .int .u64 p, .slice b R.length d, .pointer (some ⟨gs, 0, none⟩)]) (.agg (lgA la B.length lk cc)) (.int .u64 p) (.slice b R.length d) (.pointer (some ⟨gs, 0, none⟩)) ?_
 simp only [pu]
 refine run_to rfl (some 13) rfl (.pointer (some ⟨V2.heap.size, 0, none⟩)) (V2.alloc (.cells (lgA none 0 0 0) 25)) (by kernel_rfl) ?_
 simp only [pu]
 refine gzs rfl (hst3) <| gz3 (.int .u64 p) (.slice b R.length d) (.pointer (some ⟨gs, 0, none⟩)) <| wn ?_
 simp only [pu]
 obtain ⟨g3, hg3⟩ : ∃ g3, V2.heap.size = g3 := ⟨_, rfl⟩
 have hb13 := hbm.trans (hb3.mono hbm.size)
 have HLQ := Lib.hid hldq
 have HLK := Lib.hid hlk
 have HPW : Hid (W64 p) := Lib.hid ⟨hp0, by omega⟩
 have HP3 : Hid (0 ≤ p ∧ p ≤ 3) := Lib.hid ⟨hp0, hp3⟩
 have HGS : Hid (w.heap.size ≤ gs ∧ gs < g3 ∧ g3 < V3.heap.size) := Lib.hid ⟨Nat.le_trans HB1.out.size hgs, by rw [← hg3]; exact hns.lt, by rw [← hg3]; exact hbx3.lt⟩
 rw [hg3] at hbx3 ⊢
 have HX3 := Lib.hid hbx3
 have HBM := Lib.hid hb13
 have HB3 := Lib.hid (HB1.out.trans (hb13.mono HB1.out.size))
 have HC3 := Lib.hid (hcs.below hb3)
 have HRW3 := Lib.hid (hrw.below hb3)
 have HNS3 := Lib.hid (hns.below hb3)
 have HNE := Lib.hid hne
 have HRB : Hid (R ≠ [] → ∀ x, b = some x → x.block < g3) := Lib.hid fun h x hx => by rw [← hg3]; exact sl_lt hrw.sl h x hx
 have HLB : Hid (acc B ≠ [] → ∀ x, la = some x → x.block < g3) := Lib.hid fun h x hx => by rw [← hg3]; exact cs_old hcs h x hx
 clear CM hcs hlk hldq hp0 hp3 hrw hns hgs hne hbm hst3 hb3 hbx3 hb13 hg3
 have CM := mk_tx (rc := lk) (co := cc) (p := p) HNS3.out (by omega) (by decide) HC3.out HNE.out HLQ.out.q (by have := HLQ.out.n; omega)
 go_upto_region 4 with fail
 refine wl <| gz1 (.pointer (some ⟨gs, 0, none⟩)) <| gzl rfl ⟨g3, 0, none⟩ (.agg (lgA la B.length lk cc)) (load_lg HX3.out) <| gz1 (.int .u64 p) <|
  gze (fun v w' => ∃ x a2 c2, v = .agg (txA x a2 c2) ∧ RowT w' V3.heap.size (.slice a2 x.tr.length c2) x.tr ∧ GQ x ∧ 1 ≤ x.tr.length ∧ x.tr.length ≤ 3 ∧ But gs V3 w') (CM.mono fun e w' q => by obtain ⟨x, a2, c2, h1, h2, h3, h4, h5, -, h6⟩ := q; exact ⟨_, h1, x, a2, c2, rfl, h2, h3, h4, h5, h6⟩) (fun vv V4 hq => ?_)
 obtain ⟨⟨snd, sq, gas, fee, memo, tr⟩, a2, c2, rfl, hrt, hgq, hm1, hm3, hbt⟩ := hq
 obtain ⟨V5, hst5, hb5, hbx5⟩ := new_txv V4 ⟨snd, sq, gas, fee, memo, tr⟩ a2 c2
 simp only [pu]
 refine run_to rfl (some 17) rfl (.pointer (some ⟨V4.heap.size, 0, none⟩)) (V4.alloc (.cells (txA zX none 0) 46)) (by kernel_rfl) ?_
 simp only [pu]
 refine gzs rfl (hst5) <| wn ?_
 obtain ⟨g17, hg17⟩ : ∃ g, V4.heap.size = g := ⟨_, rfl⟩
 rw [hg17] at hbx5 ⊢
 obtain ⟨a9, c9, e9, hct, -⟩ := own_cs hrt
 simp only [Value.slice.injEq, true_and] at e9
 obtain ⟨rfl, rfl⟩ := e9
 have HTA : Hid (tfc tr ≠ [] → ∀ x, a2 = some x → x.block < g17) := Lib.hid fun h x hx => by rw [← hg17]; exact cs_old hct h x hx
 have HTL : Hid (1 ≤ tr.length ∧ tr.length ≤ 3) := Lib.hid ⟨hm1, hm3⟩
 have hok : OkX ⟨snd, sq, gas, fee, memo, tr⟩ := (val_ok (hgq.val hm1 (by omega)) hgq.b.sq hgq.b.gas hgq.b.fee hgq.b.am).1
 have HOK := Lib.hid hok
 have hb45 := hb5
 have HG17 : Hid (w.heap.size ≤ g17 ∧ g3 ≠ g17 ∧ g3 < g17) := Lib.hid (by have := HGS.out; have := hbt.1.size; have := HX3.out.lt; have := (hbt.2 g3 HX3.out.lt (by omega)); have h9 := (HX3.out.but hbt (by omega)).lt; omega)
 have hX35 := (HX3.out.but hbt (by have := HGS.out; omega)).below (by rw [hg17]; exact HG17.out.2.2) hb5
 have hC5 := (cs_butn HC3.out hbt HNE.out).below hb5
 have hB5 := (HB3.out.trans (hbt.1.mono HGS.out.1)).trans (hb5.mono (HB3.out.trans (hbt.1.mono HGS.out.1)).size)
 have HLA : Hid (acc B ≠ [] → ∀ x, la = some x → x.block < g17) := Lib.hid fun h x hx => by have := HLB.out h x hx; have := HG17.out; omega
 have hT5 := hct.below hb5
 have CG := ref_get la lk B cc snd V5 hC5 (by have := HLQ.out.n; omega)
 have hyw := getX_w HLQ.out.w snd
 generalize (getX B snd).2 = gb at *
 generalize (getX B snd).1 = y at *
 have HYW := Lib.hid hyw
 clear CM hst5 hb5 hrt hgq hm1 hm3 hbt hct hg17 hok hyw HX3 HC3 HRW3 HNS3 HNE HRB HLB HB3
 go_upto_region 5 with fail
 refine wl <| gzl rfl ⟨g3, 0, none⟩ (.agg (lgA la B.length lk cc)) (load_lg hX35) <| gz1 (.pointer (some ⟨g17, 0, none⟩)) <| gzl rfl ⟨g17, 0, none⟩ (.string snd) (hbx5.load (i := 0) rfl (by kernel_rfl)) <| gzc (.tuple #[.agg (acA y), .bool gb]) (fun w' => Below V5.heap.size V5 w') CG (fun V6 hV6 => ?_)
 obtain ⟨V7, hst7, hb7, hbx7⟩ := new_ac V6 y
 simp only [pu]
 refine gz3 (.tuple #[.agg (acA y), .bool gb]) (.agg (acA y)) (.bool gb) ?_
 simp only [pu]
 refine run_to rfl (some 18) rfl (.pointer (some ⟨V6.heap.size, 0, none⟩)) (V6.alloc (.cells (acA zAc) 49)) (by kernel_rfl) ?_
 simp only [pu]
 refine gzs rfl (hst7) <| gz1 (.bool gb) <| wn ?_
 simp only [pu]
 obtain ⟨g18, hg18⟩ : ∃ g, V6.heap.size = g := ⟨_, rfl⟩
 rw [hg18] at hbx7 ⊢
 have hb57 := hV6.trans (hb7.mono hV6.size)
 have HG18 : Hid (g18 ≠ g17 ∧ g17 < g18) := Lib.hid (by have := hbx5.lt; have := hV6.size; omega)
 have HE7 : Hid (ES w g3 g17 g18 la lk B cc y ⟨snd, sq, gas, fee, memo, tr⟩ a2 c2 V7) := Lib.hid ⟨hB5.trans (hb57.mono hB5.size), hX35.below hX35.lt hb57, hC5.below hb57, hbx5.below hbx5.lt hb57, hbx7, hT5.below hb57⟩
 have CE := ref_encode ⟨snd, sq, gas, fee, memo, tr⟩ a2 c2 V7 HE7.out.tr HOK.out.b
 obtain ⟨M6, hM6⟩ : ∃ M, (encX ⟨snd, sq, gas, fee, memo, tr⟩).1 = M := ⟨_, rfl⟩
 obtain ⟨e6, he6⟩ : ∃ e, (encX ⟨snd, sq, gas, fee, memo, tr⟩).2 = e := ⟨_, rfl⟩
 clear CG hst7 hV6 hb7 hg18 hbx7 hb57 hB5 hX35 hC5 hbx5 hT5
 go_upto_region 6 with fail
 refine wl <| gzl rfl ⟨g17, 0, none⟩ (.agg (txA ⟨snd, sq, gas, fee, memo, tr⟩ a2 c2)) (load_txb HE7.out.x17) <|
  gze (fun v w' => ∃ bE dE, v = .tuple #[.slice bE (List.length M6) dE, .int .i64 e6] ∧ Sl w' bE dE M6 ∧ M6.length ≤ dE ∧ Below V7.heap.size V7 w') (CE.mono fun e w' q => by obtain ⟨v, h1, h2, h3⟩ := q; obtain ⟨bE, dE, rfl, h4, h5⟩ := h2.sl; rw [hM6, he6] at h1; rw [hM6] at h4 h5; exact ⟨_, h1, bE, dE, rfl, h4, h5, h3⟩) (fun vv V8 hq => ?_)
 obtain ⟨bE, dE, rfl, hsE, hdE, hbE⟩ := hq
 simp only [pu]
 refine gz5 (.tuple #[.slice bE M6.length dE, .int .i64 e6]) (.slice bE M6.length dE) (.int .i64 e6) (.slice bE M6.length dE) (.int .i64 e6) <| wn ?_
 simp only [pu]
 have HE8 := Lib.hid (HE7.out.below hbE)
 have CU := fun V => Mo.ref_used M6.length tr.length V
 have HUW := Lib.hid (used_w M6.length tr.length)
 generalize usedV M6.length tr.length = us at *
 clear CE hM6 he6 HE7 hsE hdE hbE
 go_upto_region 7 with fail
 refine wl <| gz3 (.slice bE M6.length dE) (.int .i64 M6.length) (.pointer (some ⟨g17, 5, none⟩)) <| gzl rfl ⟨g17, 5, none⟩ (.slice a2 tr.length c2) (HE8.out.x17.load (i := 5) rfl (by kernel_rfl)) <| gz1 (.int .i64 tr.length) <| gzc (.int .u64 us) (fun w' => V8 = w') (CU V8) (fun V9 hV9 => ?_)
 subst hV9
 simp only [pu]
 refine gz1 (.int .u64 us) <| wn ?_
 simp only [pu]
 go_upto_region 8 with fail
 have CPL := fun U => mk_place x2 5 U (by decide) (by decide)
 have hpr := pl_range x2 5 (by decide)
 obtain ⟨v8, hpv⟩ : ∃ v : Nat, pl x2 5 = v := ⟨(pl x2 5).toNat, by omega⟩
 rw [hpv] at CPL hpr
 have hvl : v8 < 5 := by omega
 clear hpv hpr
 obtain ⟨W0, hW0⟩ : ∃ W0, V8.drew = W0 := ⟨_, rfl⟩
 have HEA := HE8.out.drew
 rw [hW0] at HEA
 have HW0 := Lib.hid hW0
 have hbW := build_w5 gas (IntKind.u64.wrap (us - 1)) us (IntKind.u64.wrap (us + 1)) 18446744073709551615 W0
 have hb01 : Below W0.heap.size W0 (W0.alloc (.cells (wds [gas, IntKind.u64.wrap (us - 1), us, IntKind.u64.wrap (us + 1), 18446744073709551615]) 23)) := (Below.refl _ W0).alloc (Nat.le_refl _) _
 have hxR : Bx (W0.alloc (.cells (wds [gas, IntKind.u64.wrap (us - 1), us, IntKind.u64.wrap (us + 1), 18446744073709551615]) 23)) W0.heap.size (wds [gas, IntKind.u64.wrap (us - 1), us, IntKind.u64.wrap (us + 1), 18446744073709551615]) 23 := heap_alloc_last W0 _
 generalize W0.alloc (.cells (wds [gas, IntKind.u64.wrap (us - 1), us, IntKind.u64.wrap (us + 1), 18446744073709551615]) 23) = W1 at *
 obtain ⟨gR8, hgR⟩ : ∃ g, W0.heap.size = g := ⟨_, rfl⟩
 rw [hgR] at hbW hxR
 obtain ⟨y8, hly, hyw⟩ := ld_ws hxR (i := v8) ((mem_w (HOK.out.gas) (mem_w (w64_wrap _) (mem_w (HUW.out) (mem_w (w64_wrap _) (mem_w (w64_max) (fun x hx => nomatch hx))))))) (by show v8 < 5; exact hvl)
 have HQY := Lib.hid hyw
 have HE1 := HEA.below hb01
 clear hW0 hxR hyw
 obtain ⟨W2, hsS, hE2⟩ := HE1.st (t' := ⟨snd, sq, y8, fee, memo, tr⟩) (i := 2) (ty := 23) (v := .int .u64 y8) HG17.out.1 HG17.out.2.1 HG18.out.1 HLA.out HTA.out (by decide) rfl (by kernel_rfl) rfl rfl
 have h0 : KR5 false false false false false W0 W1 W2 V8.drew := by rw [HW0.out]; exact KR5.start
 refine wp_region_inv (fun listed act9 V => ∃ b0 b1 b2 b3 b4 b5 b6 b7 b8 b9 b10 b11 b12 b13 : Bool, listed = #[b0, b1, b2, b3, b4, b5, b6, b7, b8, b9, b10, b11, b12, b13] ∧ act9 = { tmps := #[.slice ak L.length ck, .int .i64 x1, .int .i64 x2, .int .i64 x3, .int .i64 x4, .int .i64 x5, undef, undef, undef, undef, undef, undef, .bool false, .pointer (some ⟨g3, 0, none⟩), .int .u64 p, .slice b R.length d, .pointer (some ⟨gs, 0, none⟩), .pointer (some ⟨g17, 0, none⟩), .pointer (some ⟨g18, 0, none⟩), .bool gb, .slice bE M6.length dE, .int .i64 e6, .int .u64 us, undef, undef, undef, undef, undef, undef, undef, undef, .slice ak L.length ck, .slice (some ⟨w.heap.size, 0, none⟩) 1 1, .bool false, undef, .tuple #[.agg (lgA la B.length lk cc), .int .u64 p, .slice b R.length d, .pointer (some ⟨gs, 0, none⟩)], .slice ak L.length ck, .tuple #[.agg (lgA la B.length lk cc), .int .u64 p, .slice b R.length d, .pointer (some ⟨gs, 0, none⟩)], .agg (lgA la B.length lk cc), .int .u64 p, .slice b R.length d, .pointer (some ⟨gs, 0, none⟩), .pointer (some ⟨gs, 0, none⟩), .agg (lgA la B.length lk cc), .int .u64 p, .agg (txA ⟨snd, sq, gas, fee, memo, tr⟩ a2 c2), .tuple #[.agg (acA y), .bool gb], .agg (lgA la B.length lk cc), .pointer (some ⟨g17, 0, none⟩), .string snd, .tuple #[.agg (acA y), .bool gb], .agg (acA y), .bool gb, .tuple #[.slice bE M6.length dE, .int .i64 e6], .agg (txA ⟨snd, sq, gas, fee, memo, tr⟩ a2 c2), .tuple #[.slice bE M6.length dE, .int .i64 e6], .slice bE M6.length dE, .int .i64 e6, .slice bE M6.length dE, .int .i64 M6.length, .pointer (some ⟨g17, 5, none⟩), .slice a2 tr.length c2, .int .i64 tr.length, .int .u64 us, (cond b0 (.pointer (some ⟨g17, 2, none⟩)) undef), (cond b1 (.int .u64 gas) undef), (cond b2 (.int .u64 us) undef), (cond b3 (.int .u64 (IntKind.u64.wrap (us - 1))) undef), (cond b4 (.int .u64 us) undef), (cond b5 (.int .u64 us) undef), (cond b6 (.int .u64 (IntKind.u64.wrap (us + 1))) undef), (cond b7 (.slice (some ⟨gR8, 0, none⟩) 5 5) undef), (cond b8 (.int .i64 x2) undef), (cond b9 (.int .i64 v8) undef), (cond b10 (.pointer (some ⟨gR8, 0 + v8 * 1, none⟩)) undef), (cond b11 (.int .u64 y8) undef), (cond b12 (.pointer (some ⟨g17, 2, none⟩)) undef), undef, undef, undef, undef, undef, undef, undef, undef, undef, undef, undef, undef, undef, undef, undef, undef, undef, undef, undef, undef, undef, undef, undef, undef, undef, undef, undef, undef, undef, undef, undef, undef, undef, undef, undef, undef, undef, undef, undef, undef, undef, undef, undef, undef, undef, undef, undef, undef, undef, undef, undef, undef, undef, undef, undef, undef, undef, undef, undef, undef, undef, undef, undef, undef, undef, undef, undef, undef, undef, undef, undef, undef, undef, undef, undef, undef, undef, undef, undef, undef, undef, undef, undef, undef, undef, undef, undef, undef, undef, undef, undef, undef, undef, undef, undef, undef, undef, undef, undef, undef, undef, undef, undef, undef, undef, undef, undef, undef, undef, undef, undef, undef, undef, undef], defers := [] } ∧ KR5 b1 b7 b10 b11 b13 W0 W1 W2 V) (by kernel_rfl) (by kernel_rfl) ?_ ?_ ?_
 ·exact ⟨false, false, false, false, false, false, false, false, false, false, false, false, false, false, rfl, rfl, h0⟩
 ·intro i9 listed act9 V hi9 hr hJ
  obtain ⟨b0, b1, b2, b3, b4, b5, b6, b7, b8, b9, b10, b11, b12, b13, rfl, rfl, hF⟩ := hJ
  have hi2 : i9 < 14 := hi9
  have hi3 : i9 = 0 ∨ i9 = 1 ∨ i9 = 2 ∨ i9 = 3 ∨ i9 = 4 ∨ i9 = 5 ∨ i9 = 6 ∨ i9 = 7 ∨ i9 = 8 ∨ i9 = 9 ∨ i9 = 10 ∨ i9 = 11 ∨ i9 = 12 ∨ i9 = 13 := by omega
  rcases hi3 with rfl | rfl | rfl | rfl | rfl | rfl | rfl | rfl | rfl | rfl | rfl | rfl | rfl | rfl
  ·obtain rfl : b0 = false := ready_self hr
   refine st_val rfl (by kernel_rfl) (some 64) rfl (.pointer (some ⟨g17, 2, none⟩)) V (by kernel_rfl) ?_
   exact ⟨true, b1, b2, b3, b4, b5, b6, b7, b8, b9, b10, b11, b12, b13, rfl, rfl, hF⟩
  ·obtain rfl : b1 = false := ready_self hr
   obtain rfl : b0 = true := ready_dep hr 0 (by kernel_rfl)
   obtain ⟨rfl, rfl, rfl, rfl, hV0⟩ := hF.l0
   refine st_load rfl (by kernel_rfl) (some 65) rfl 23 (.tmp 64) rfl ⟨g17, 2, none⟩ (.int .u64 gas) (by kernel_rfl) (by rw [hV0]; exact HEA.x17.load (i := 2) rfl (by kernel_rfl)) ?_
   exact ⟨true, true, b2, b3, b4, b5, b6, false, b8, b9, false, false, b12, false, rfl, rfl, hF.l1⟩
  ·obtain rfl : b2 = false := ready_self hr
   refine st_val rfl (by kernel_rfl) (some 66) rfl (.int .u64 us) V (by kernel_rfl) ?_
   exact ⟨b0, b1, true, b3, b4, b5, b6, b7, b8, b9, b10, b11, b12, b13, rfl, rfl, hF⟩
  ·obtain rfl : b3 = false := ready_self hr
   obtain rfl : b2 = true := ready_dep hr 2 (by kernel_rfl)
   refine st_val rfl (by kernel_rfl) (some 67) rfl (.int .u64 (IntKind.u64.wrap (us - 1))) V (sub_uw rfl us 1 (by kernel_rfl) (by kernel_rfl) _) ?_
   exact ⟨b0, b1, true, true, b4, b5, b6, b7, b8, b9, b10, b11, b12, b13, rfl, rfl, hF⟩
  ·obtain rfl : b4 = false := ready_self hr
   refine st_val rfl (by kernel_rfl) (some 68) rfl (.int .u64 us) V (by kernel_rfl) ?_
   exact ⟨b0, b1, b2, b3, true, b5, b6, b7, b8, b9, b10, b11, b12, b13, rfl, rfl, hF⟩
  ·obtain rfl : b5 = false := ready_self hr
   refine st_val rfl (by kernel_rfl) (some 69) rfl (.int .u64 us) V (by kernel_rfl) ?_
   exact ⟨b0, b1, b2, b3, b4, true, b6, b7, b8, b9, b10, b11, b12, b13, rfl, rfl, hF⟩
  ·obtain rfl : b6 = false := ready_self hr
   obtain rfl : b5 = true := ready_dep hr 5 (by kernel_rfl)
   refine st_val rfl (by kernel_rfl) (some 70) rfl (.int .u64 (IntKind.u64.wrap (us + 1))) V (add_uw rfl us 1 (by kernel_rfl) (by kernel_rfl) _) ?_
   exact ⟨b0, b1, b2, b3, b4, true, true, b7, b8, b9, b10, b11, b12, b13, rfl, rfl, hF⟩
  ·obtain rfl : b7 = false := ready_self hr
   obtain rfl : b1 = true := ready_dep hr 1 (by kernel_rfl)
   obtain rfl : b3 = true := ready_dep hr 3 (by kernel_rfl)
   obtain rfl : b4 = true := ready_dep hr 4 (by kernel_rfl)
   obtain rfl : b6 = true := ready_dep hr 6 (by kernel_rfl)
   obtain ⟨rfl, rfl, rfl, hV0⟩ := hF.b0
   refine st_build rfl (by kernel_rfl) (some 71) rfl 36 5 #[(0, .tmp 65), (1, .tmp 67), (2, .tmp 68), (3, .tmp 70), (4, .const (.int .u64 18446744073709551615))] rfl #[(0, .int .u64 gas), (1, .int .u64 (IntKind.u64.wrap (us - 1))), (2, .int .u64 us), (3, .int .u64 (IntKind.u64.wrap (us + 1))), (4, .int .u64 18446744073709551615)] (by kernel_rfl) (.slice (some ⟨gR8, 0, none⟩) 5 5) W1 (by rw [hV0]; exact hbW) ?_
   exact ⟨b0, true, b2, true, true, b5, true, true, b8, b9, false, false, b12, false, rfl, rfl, KR5.b1⟩
  ·obtain rfl : b8 = false := ready_self hr
   refine st_val rfl (by kernel_rfl) (some 72) rfl (.int .i64 x2) V (by kernel_rfl) ?_
   exact ⟨b0, b1, b2, b3, b4, b5, b6, b7, true, b9, b10, b11, b12, b13, rfl, rfl, hF⟩
  ·obtain rfl : b9 = false := ready_self hr
   obtain rfl : b8 = true := ready_dep hr 8 (by kernel_rfl)
   refine st_call rfl (by kernel_rfl) (some 73) rfl 18 #[.int .i64 x2, .int .i64 5] (by kernel_rfl) ((CPL V).mono fun e w9 z => ?_)
   obtain ⟨rfl, rfl⟩ := z
   exact ⟨_, rfl, b0, b1, b2, b3, b4, b5, b6, b7, true, true, b10, b11, b12, b13, rfl, rfl, hF⟩
  ·obtain rfl : b10 = false := ready_self hr
   obtain rfl : b7 = true := ready_dep hr 7 (by kernel_rfl)
   obtain rfl : b9 = true := ready_dep hr 9 (by kernel_rfl)
   obtain ⟨rfl, rfl⟩ := hF.i0
   refine st_val rfl (by kernel_rfl) (some 74) rfl (.pointer (some ⟨gR8, 0 + v8 * 1, none⟩)) V (idx_w gR8 0 5 5 v8 hvl _ rfl (by kernel_rfl) (by kernel_rfl)) ?_
   exact ⟨b0, b1, b2, b3, b4, b5, b6, true, b8, true, true, false, b12, false, rfl, rfl, hF.i1⟩
  ·obtain rfl : b11 = false := ready_self hr
   obtain rfl : b10 = true := ready_dep hr 10 (by kernel_rfl)
   obtain ⟨rfl, rfl, hV1⟩ := hF.y0
   refine st_load rfl (by kernel_rfl) (some 75) rfl 23 (.tmp 74) rfl ⟨gR8, 0 + v8 * 1, none⟩ (.int .u64 y8) (by kernel_rfl) (by rw [hV1]; exact hly) ?_
   exact ⟨b0, b1, b2, b3, b4, b5, b6, true, b8, b9, true, true, b12, false, rfl, rfl, hF.y1⟩
  ·obtain rfl : b12 = false := ready_self hr
   refine st_val rfl (by kernel_rfl) (some 76) rfl (.pointer (some ⟨g17, 2, none⟩)) V (by kernel_rfl) ?_
   exact ⟨b0, b1, b2, b3, b4, b5, b6, b7, b8, b9, b10, b11, true, b13, rfl, rfl, hF⟩
  ·obtain rfl : b13 = false := ready_self hr
   obtain rfl : b12 = true := ready_dep hr 12 (by kernel_rfl)
   obtain rfl : b11 = true := ready_dep hr 11 (by kernel_rfl)
   obtain ⟨hbb, hV1⟩ := hF.s0
   refine st_storeA rfl (by kernel_rfl) rfl 23 (.tmp 76) (.tmp 75) rfl (.pointer (some ⟨g17, 2, none⟩)) (.int .u64 y8) (by kernel_rfl) (by kernel_rfl) W2 (by rw [hV1]; exact hsS) ?_
   exact ⟨b0, b1, b2, b3, b4, b5, b6, b7, b8, b9, b10, true, true, true, rfl, rfl, hF.s1⟩
 ·intro act9 V hJ
  obtain ⟨b0, b1, b2, b3, b4, b5, b6, b7, b8, b9, b10, b11, b12, b13, he, rfl, hF⟩ := hJ
  have he : (#[true, true, true, true, true, true, true, true, true, true, true, true, true, true] : Array Bool) = #[b0, b1, b2, b3, b4, b5, b6, b7, b8, b9, b10, b11, b12, b13] := he
  simp only [Array.mk.injEq, List.cons.injEq, and_true] at he
  obtain ⟨rfl, rfl, rfl, rfl, rfl, rfl, rfl, rfl, rfl, rfl, rfl, rfl, rfl, rfl⟩ := he
  simp only [cond_true]
  have hVW : V = W2 := hF.is
  rw [hVW]
  clear hVW hF h0
  generalize W2 = V9 at *
  have HE9 := Lib.hid hE2
  have HGA : Hid (W64 y8) := HQY
  have CN := fun V => Mo.ref_need y8 p V HGA.out HPW.out
  have HMV := Lib.hid (mul_w HGA.out HPW.out)
  generalize mulV y8 p = mv at *
  generalize mulB y8 p = mb at *
  clear HW0 CPL hvl hbW hb01 hly HQY hgR HEA HE1 hsS hE2 CU HE8
  go_upto_region 9 with fail
  refine wl <| gz1 (.pointer (some ⟨g17, 2, none⟩)) <| gzl rfl ⟨g17, 2, none⟩ (.int .u64 y8) (HE9.out.x17.load (i := 2) rfl (by kernel_rfl)) <| gz1 (.int .u64 p) <| gzc (.tuple #[.int .u64 mv, .bool mb]) (fun w' => V9 = w') (CN V9) (fun V9 hV9 => ?_)
  subst hV9
  simp only [pu]
  refine gz5 (.tuple #[.int .u64 mv, .bool mb]) (.int .u64 mv) (.bool mb) (.int .u64 mv) (.bool mb) <| wn ?_
  simp only [pu]
  go_upto_region 10 with fail
  have CPL := fun U => mk_place x1 6 U (by decide) (by decide)
  have hpr := pl_range x1 6 (by decide)
  obtain ⟨v10, hpv⟩ : ∃ v : Nat, pl x1 6 = v := ⟨(pl x1 6).toNat, by omega⟩
  rw [hpv] at CPL hpr
  have hvl : v10 < 6 := by omega
  clear hpv hpr
  obtain ⟨W0, hW0⟩ : ∃ W0, V9.drew = W0 := ⟨_, rfl⟩
  have HEA := HE9.out.drew
  rw [hW0] at HEA
  have HW0 := Lib.hid hW0
  have hbW := build_w6 fee (IntKind.u64.wrap (mv - 1)) mv (IntKind.u64.wrap (mv + 1)) (y.2.1) 18446744073709551615 W0
  have hb01 : Below W0.heap.size W0 (W0.alloc (.cells (wds [fee, IntKind.u64.wrap (mv - 1), mv, IntKind.u64.wrap (mv + 1), y.2.1, 18446744073709551615]) 23)) := (Below.refl _ W0).alloc (Nat.le_refl _) _
  have hxR : Bx (W0.alloc (.cells (wds [fee, IntKind.u64.wrap (mv - 1), mv, IntKind.u64.wrap (mv + 1), y.2.1, 18446744073709551615]) 23)) W0.heap.size (wds [fee, IntKind.u64.wrap (mv - 1), mv, IntKind.u64.wrap (mv + 1), y.2.1, 18446744073709551615]) 23 := heap_alloc_last W0 _
  generalize W0.alloc (.cells (wds [fee, IntKind.u64.wrap (mv - 1), mv, IntKind.u64.wrap (mv + 1), y.2.1, 18446744073709551615]) 23) = W1 at *
  obtain ⟨gR10, hgR⟩ : ∃ g, W0.heap.size = g := ⟨_, rfl⟩
  rw [hgR] at hbW hxR
  obtain ⟨y10, hly, hyw⟩ := ld_ws hxR (i := v10) ((mem_w (HOK.out.fee) (mem_w (w64_wrap _) (mem_w (HMV.out) (mem_w (w64_wrap _) (mem_w (HYW.out.1) (mem_w (w64_max) (fun x hx => nomatch hx)))))))) (by show v10 < 6; exact hvl)
  have HQY := Lib.hid hyw
  have HE1 := HEA.below hb01
  clear hW0 hxR hyw
  obtain ⟨W2, hsS, hE2⟩ := HE1.st (t' := ⟨snd, sq, y8, y10, memo, tr⟩) (i := 3) (ty := 23) (v := .int .u64 y10) HG17.out.1 HG17.out.2.1 HG18.out.1 HLA.out HTA.out (by decide) rfl (by kernel_rfl) rfl rfl
  have h0 : KR5 false false false false false W0 W1 W2 V9.drew := by rw [HW0.out]; exact KR5.start
  refine wp_region_inv (fun listed act9 V => ∃ b0 b1 b2 b3 b4 b5 b6 b7 b8 b9 b10 b11 b12 b13 b14 b15 : Bool, listed = #[b0, b1, b2, b3, b4, b5, b6, b7, b8, b9, b10, b11, b12, b13, b14, b15] ∧ act9 = { tmps := #[.slice ak L.length ck, .int .i64 x1, .int .i64 x2, .int .i64 x3, .int .i64 x4, .int .i64 x5, undef, undef, undef, undef, undef, undef, .bool false, .pointer (some ⟨g3, 0, none⟩), .int .u64 p, .slice b R.length d, .pointer (some ⟨gs, 0, none⟩), .pointer (some ⟨g17, 0, none⟩), .pointer (some ⟨g18, 0, none⟩), .bool gb, .slice bE M6.length dE, .int .i64 e6, .int .u64 us, .int .u64 mv, .bool mb, undef, undef, undef, undef, undef, undef, .slice ak L.length ck, .slice (some ⟨w.heap.size, 0, none⟩) 1 1, .bool false, undef, .tuple #[.agg (lgA la B.length lk cc), .int .u64 p, .slice b R.length d, .pointer (some ⟨gs, 0, none⟩)], .slice ak L.length ck, .tuple #[.agg (lgA la B.length lk cc), .int .u64 p, .slice b R.length d, .pointer (some ⟨gs, 0, none⟩)], .agg (lgA la B.length lk cc), .int .u64 p, .slice b R.length d, .pointer (some ⟨gs, 0, none⟩), .pointer (some ⟨gs, 0, none⟩), .agg (lgA la B.length lk cc), .int .u64 p, .agg (txA ⟨snd, sq, gas, fee, memo, tr⟩ a2 c2), .tuple #[.agg (acA y), .bool gb], .agg (lgA la B.length lk cc), .pointer (some ⟨g17, 0, none⟩), .string snd, .tuple #[.agg (acA y), .bool gb], .agg (acA y), .bool gb, .tuple #[.slice bE M6.length dE, .int .i64 e6], .agg (txA ⟨snd, sq, gas, fee, memo, tr⟩ a2 c2), .tuple #[.slice bE M6.length dE, .int .i64 e6], .slice bE M6.length dE, .int .i64 e6, .slice bE M6.length dE, .int .i64 M6.length, .pointer (some ⟨g17, 5, none⟩), .slice a2 tr.length c2, .int .i64 tr.length, .int .u64 us, .pointer (some ⟨g17, 2, none⟩), .int .u64 gas, .int .u64 us, .int .u64 (IntKind.u64.wrap (us - 1)), .int .u64 us, .int .u64 us, .int .u64 (IntKind.u64.wrap (us + 1)), .slice (some ⟨gR8, 0, none⟩) 5 5, .int .i64 x2, .int .i64 v8, .pointer (some ⟨gR8, 0 + v8 * 1, none⟩), .int .u64 y8, .pointer (some ⟨g17, 2, none⟩), .tuple #[.int .u64 mv, .bool mb], .pointer (some ⟨g17, 2, none⟩), .int .u64 y8, .int .u64 p, .tuple #[.int .u64 mv, .bool mb], .int .u64 mv, .bool mb, (cond b0 (.pointer (some ⟨g17, 3, none⟩)) undef), (cond b1 (.int .u64 fee) undef), (cond b2 (.int .u64 mv) undef), (cond b3 (.int .u64 (IntKind.u64.wrap (mv - 1))) undef), (cond b4 (.int .u64 mv) undef), (cond b5 (.int .u64 mv) undef), (cond b6 (.int .u64 (IntKind.u64.wrap (mv + 1))) undef), (cond b7 (.pointer (some ⟨g18, 1, none⟩)) undef), (cond b8 (.int .u64 y.2.1) undef), (cond b9 (.slice (some ⟨gR10, 0, none⟩) 6 6) undef), (cond b10 (.int .i64 x1) undef), (cond b11 (.int .i64 v10) undef), (cond b12 (.pointer (some ⟨gR10, 0 + v10 * 1, none⟩)) undef), (cond b13 (.int .u64 y10) undef), (cond b14 (.pointer (some ⟨g17, 3, none⟩)) undef), undef, undef, undef, undef, undef, undef, undef, undef, undef, undef, undef, undef, undef, undef, undef, undef, undef, undef, undef, undef, undef, undef, undef, undef, undef, undef, undef, undef, undef, undef, undef, undef, undef, undef, undef, undef, undef, undef, undef, undef, undef, undef, undef, undef, undef, undef, undef, undef, undef, undef, undef, undef, undef, undef, undef, undef, undef, undef, undef, undef, undef, undef, undef, undef, undef, undef, undef, undef, undef, undef, undef, undef, undef, undef, undef, undef, undef, undef, undef, undef, undef, undef, undef, undef, undef, undef, undef, undef, undef, undef, undef, undef], defers := [] } ∧ KR5 b1 b9 b12 b13 b15 W0 W1 W2 V) (by kernel_rfl) (by kernel_rfl) ?_ ?_ ?_
  ·exact ⟨false, false, false, false, false, false, false, false, false, false, false, false, false, false, false, false, rfl, rfl, h0⟩
  ·intro i9 listed act9 V hi9 hr hJ
   obtain ⟨b0, b1, b2, b3, b4, b5, b6, b7, b8, b9, b10, b11, b12, b13, b14, b15, rfl, rfl, hF⟩ := hJ
   have hi2 : i9 < 16 := hi9
   have hi3 : i9 = 0 ∨ i9 = 1 ∨ i9 = 2 ∨ i9 = 3 ∨ i9 = 4 ∨ i9 = 5 ∨ i9 = 6 ∨ i9 = 7 ∨ i9 = 8 ∨ i9 = 9 ∨ i9 = 10 ∨ i9 = 11 ∨ i9 = 12 ∨ i9 = 13 ∨ i9 = 14 ∨ i9 = 15 := by omega
   rcases hi3 with rfl | rfl | rfl | rfl | rfl | rfl | rfl | rfl | rfl | rfl | rfl | rfl | rfl | rfl | rfl | rfl
   ·obtain rfl : b0 = false := ready_self hr
    refine st_val rfl (by kernel_rfl) (some 84) rfl (.pointer (some ⟨g17, 3, none⟩)) V (by kernel_rfl) ?_
    exact ⟨true, b1, b2, b3, b4, b5, b6, b7, b8, b9, b10, b11, b12, b13, b14, b15, rfl, rfl, hF⟩
   ·obtain rfl : b1 = false := ready_self hr
    obtain rfl : b0 = true := ready_dep hr 0 (by kernel_rfl)
    obtain ⟨rfl, rfl, rfl, rfl, hV0⟩ := hF.l0
    refine st_load rfl (by kernel_rfl) (some 85) rfl 23 (.tmp 84) rfl ⟨g17, 3, none⟩ (.int .u64 fee) (by kernel_rfl) (by rw [hV0]; exact HEA.x17.load (i := 3) rfl (by kernel_rfl)) ?_
    exact ⟨true, true, b2, b3, b4, b5, b6, b7, b8, false, b10, b11, false, false, b14, false, rfl, rfl, hF.l1⟩
   ·obtain rfl : b2 = false := ready_self hr
    refine st_val rfl (by kernel_rfl) (some 86) rfl (.int .u64 mv) V (by kernel_rfl) ?_
    exact ⟨b0, b1, true, b3, b4, b5, b6, b7, b8, b9, b10, b11, b12, b13, b14, b15, rfl, rfl, hF⟩
   ·obtain rfl : b3 = false := ready_self hr
    obtain rfl : b2 = true := ready_dep hr 2 (by kernel_rfl)
    refine st_val rfl (by kernel_rfl) (some 87) rfl (.int .u64 (IntKind.u64.wrap (mv - 1))) V (sub_uw rfl mv 1 (by kernel_rfl) (by kernel_rfl) _) ?_
    exact ⟨b0, b1, true, true, b4, b5, b6, b7, b8, b9, b10, b11, b12, b13, b14, b15, rfl, rfl, hF⟩
   ·obtain rfl : b4 = false := ready_self hr
    refine st_val rfl (by kernel_rfl) (some 88) rfl (.int .u64 mv) V (by kernel_rfl) ?_
    exact ⟨b0, b1, b2, b3, true, b5, b6, b7, b8, b9, b10, b11, b12, b13, b14, b15, rfl, rfl, hF⟩
   ·obtain rfl : b5 = false := ready_self hr
    refine st_val rfl (by kernel_rfl) (some 89) rfl (.int .u64 mv) V (by kernel_rfl) ?_
    exact ⟨b0, b1, b2, b3, b4, true, b6, b7, b8, b9, b10, b11, b12, b13, b14, b15, rfl, rfl, hF⟩
   ·obtain rfl : b6 = false := ready_self hr
    obtain rfl : b5 = true := ready_dep hr 5 (by kernel_rfl)
    refine st_val rfl (by kernel_rfl) (some 90) rfl (.int .u64 (IntKind.u64.wrap (mv + 1))) V (add_uw rfl mv 1 (by kernel_rfl) (by kernel_rfl) _) ?_
    exact ⟨b0, b1, b2, b3, b4, true, true, b7, b8, b9, b10, b11, b12, b13, b14, b15, rfl, rfl, hF⟩
   ·obtain rfl : b7 = false := ready_self hr
    refine st_val rfl (by kernel_rfl) (some 91) rfl (.pointer (some ⟨g18, 1, none⟩)) V (by kernel_rfl) ?_
    exact ⟨b0, b1, b2, b3, b4, b5, b6, true, b8, b9, b10, b11, b12, b13, b14, b15, rfl, rfl, hF⟩
   ·obtain rfl : b8 = false := ready_self hr
    obtain rfl : b7 = true := ready_dep hr 7 (by kernel_rfl)
    refine st_load rfl (by kernel_rfl) (some 92) rfl 23 (.tmp 91) rfl ⟨g18, 1, none⟩ (.int .u64 y.2.1) (by kernel_rfl) (hF.all (fun U => (Instr.loadAt 23 (.pointer (some ⟨g18, 1, none⟩))).run Tryz.prog U = .ok (.int .u64 y.2.1) U) (HEA.x18.load (i := 1) rfl (by kernel_rfl)) (HE1.x18.load (i := 1) rfl (by kernel_rfl)) (hE2.x18.load (i := 1) rfl (by kernel_rfl))) ?_
    exact ⟨b0, b1, b2, b3, b4, b5, b6, true, true, b9, b10, b11, b12, b13, b14, b15, rfl, rfl, hF⟩
   ·obtain rfl : b9 = false := ready_self hr
    obtain rfl : b1 = true := ready_dep hr 1 (by kernel_rfl)
    obtain rfl : b3 = true := ready_dep hr 3 (by kernel_rfl)
    obtain rfl : b4 = true := ready_dep hr 4 (by kernel_rfl)
    obtain rfl : b6 = true := ready_dep hr 6 (by kernel_rfl)
    obtain rfl : b8 = true := ready_dep hr 8 (by kernel_rfl)
    obtain ⟨rfl, rfl, rfl, hV0⟩ := hF.b0
    refine st_build rfl (by kernel_rfl) (some 93) rfl 36 6 #[(0, .tmp 85), (1, .tmp 87), (2, .tmp 88), (3, .tmp 90), (4, .tmp 92), (5, .const (.int .u64 18446744073709551615))] rfl #[(0, .int .u64 fee), (1, .int .u64 (IntKind.u64.wrap (mv - 1))), (2, .int .u64 mv), (3, .int .u64 (IntKind.u64.wrap (mv + 1))), (4, .int .u64 y.2.1), (5, .int .u64 18446744073709551615)] (by kernel_rfl) (.slice (some ⟨gR10, 0, none⟩) 6 6) W1 (by rw [hV0]; exact hbW) ?_
    exact ⟨b0, true, b2, true, true, b5, true, b7, true, true, b10, b11, false, false, b14, false, rfl, rfl, KR5.b1⟩
   ·obtain rfl : b10 = false := ready_self hr
    refine st_val rfl (by kernel_rfl) (some 94) rfl (.int .i64 x1) V (by kernel_rfl) ?_
    exact ⟨b0, b1, b2, b3, b4, b5, b6, b7, b8, b9, true, b11, b12, b13, b14, b15, rfl, rfl, hF⟩
   ·obtain rfl : b11 = false := ready_self hr
    obtain rfl : b10 = true := ready_dep hr 10 (by kernel_rfl)
    refine st_call rfl (by kernel_rfl) (some 95) rfl 18 #[.int .i64 x1, .int .i64 6] (by kernel_rfl) ((CPL V).mono fun e w9 z => ?_)
    obtain ⟨rfl, rfl⟩ := z
    exact ⟨_, rfl, b0, b1, b2, b3, b4, b5, b6, b7, b8, b9, true, true, b12, b13, b14, b15, rfl, rfl, hF⟩
   ·obtain rfl : b12 = false := ready_self hr
    obtain rfl : b9 = true := ready_dep hr 9 (by kernel_rfl)
    obtain rfl : b11 = true := ready_dep hr 11 (by kernel_rfl)
    obtain ⟨rfl, rfl⟩ := hF.i0
    refine st_val rfl (by kernel_rfl) (some 96) rfl (.pointer (some ⟨gR10, 0 + v10 * 1, none⟩)) V (idx_w gR10 0 6 6 v10 hvl _ rfl (by kernel_rfl) (by kernel_rfl)) ?_
    exact ⟨b0, b1, b2, b3, b4, b5, b6, b7, b8, true, b10, true, true, false, b14, false, rfl, rfl, hF.i1⟩
   ·obtain rfl : b13 = false := ready_self hr
    obtain rfl : b12 = true := ready_dep hr 12 (by kernel_rfl)
    obtain ⟨rfl, rfl, hV1⟩ := hF.y0
    refine st_load rfl (by kernel_rfl) (some 97) rfl 23 (.tmp 96) rfl ⟨gR10, 0 + v10 * 1, none⟩ (.int .u64 y10) (by kernel_rfl) (by rw [hV1]; exact hly) ?_
    exact ⟨b0, b1, b2, b3, b4, b5, b6, b7, b8, true, b10, b11, true, true, b14, false, rfl, rfl, hF.y1⟩
   ·obtain rfl : b14 = false := ready_self hr
    refine st_val rfl (by kernel_rfl) (some 98) rfl (.pointer (some ⟨g17, 3, none⟩)) V (by kernel_rfl) ?_
    exact ⟨b0, b1, b2, b3, b4, b5, b6, b7, b8, b9, b10, b11, b12, b13, true, b15, rfl, rfl, hF⟩
   ·obtain rfl : b15 = false := ready_self hr
    obtain rfl : b14 = true := ready_dep hr 14 (by kernel_rfl)
    obtain rfl : b13 = true := ready_dep hr 13 (by kernel_rfl)
    obtain ⟨hbb, hV1⟩ := hF.s0
    refine st_storeA rfl (by kernel_rfl) rfl 23 (.tmp 98) (.tmp 97) rfl (.pointer (some ⟨g17, 3, none⟩)) (.int .u64 y10) (by kernel_rfl) (by kernel_rfl) W2 (by rw [hV1]; exact hsS) ?_
    exact ⟨b0, b1, b2, b3, b4, b5, b6, b7, b8, b9, b10, b11, b12, true, true, true, rfl, rfl, hF.s1⟩
  ·intro act9 V hJ
   obtain ⟨b0, b1, b2, b3, b4, b5, b6, b7, b8, b9, b10, b11, b12, b13, b14, b15, he, rfl, hF⟩ := hJ
   have he : (#[true, true, true, true, true, true, true, true, true, true, true, true, true, true, true, true] : Array Bool) = #[b0, b1, b2, b3, b4, b5, b6, b7, b8, b9, b10, b11, b12, b13, b14, b15] := he
   simp only [Array.mk.injEq, List.cons.injEq, and_true] at he
   obtain ⟨rfl, rfl, rfl, rfl, rfl, rfl, rfl, rfl, rfl, rfl, rfl, rfl, rfl, rfl, rfl, rfl⟩ := he
   simp only [cond_true]
   have hVW : V = W2 := hF.is
   rw [hVW]
   clear hVW hF h0
   generalize W2 = V10 at *
   have HE10 := Lib.hid hE2
   have HFE : Hid (W64 y10) := HQY
   clear HW0 CPL hvl hbW hb01 hly HQY hgR HEA HE1 hsS hE2 CN HE9
   go_upto_region 11 with fail
   have CPL := fun U => mk_place x3 3 U (by decide) (by decide)
   have hpr := pl_range x3 3 (by decide)
   obtain ⟨v11, hpv⟩ : ∃ v : Nat, pl x3 3 = v := ⟨(pl x3 3).toNat, by omega⟩
   rw [hpv] at CPL
   clear hpv hpr
   obtain ⟨q11, hq11⟩ : ∃ q, IntKind.u64.wrap (sq + IntKind.u64.wrap (IntKind.u64.wrap ((v11 : Nat)) - 1)) = q := ⟨_, rfl⟩
   have HQ11 : Hid (W64 q11) := Lib.hid (by rw [← hq11]; exact w64_wrap _)
   have HQE := Lib.hid hq11
   obtain ⟨W0, hW0⟩ : ∃ W0, V10.drew = W0 := ⟨_, rfl⟩
   have HE1 := HE10.out.drew
   rw [hW0] at HE1
   have HW0 := Lib.hid hW0
   clear hW0 hq11
   obtain ⟨W2, hsS, hE2⟩ := HE1.st (t' := ⟨snd, q11, y8, y10, memo, tr⟩) (i := 1) (ty := 23) (v := .int .u64 q11) HG17.out.1 HG17.out.2.1 HG18.out.1 HLA.out HTA.out (by decide) rfl (by kernel_rfl) rfl rfl
   have h0 : KR5 false false false false false W0 W0 W2 V10.drew := by rw [HW0.out]; exact KR5.start
   refine wp_region_inv (fun listed act9 V => ∃ b0 b1 b2 b3 b4 b5 b6 b7 b8 : Bool, listed = #[b0, b1, b2, b3, b4, b5, b6, b7, b8] ∧ act9 = { tmps := #[.slice ak L.length ck, .int .i64 x1, .int .i64 x2, .int .i64 x3, .int .i64 x4, .int .i64 x5, undef, undef, undef, undef, undef, undef, .bool false, .pointer (some ⟨g3, 0, none⟩), .int .u64 p, .slice b R.length d, .pointer (some ⟨gs, 0, none⟩), .pointer (some ⟨g17, 0, none⟩), .pointer (some ⟨g18, 0, none⟩), .bool gb, .slice bE M6.length dE, .int .i64 e6, .int .u64 us, .int .u64 mv, .bool mb, undef, undef, undef, undef, undef, undef, .slice ak L.length ck, .slice (some ⟨w.heap.size, 0, none⟩) 1 1, .bool false, undef, .tuple #[.agg (lgA la B.length lk cc), .int .u64 p, .slice b R.length d, .pointer (some ⟨gs, 0, none⟩)], .slice ak L.length ck, .tuple #[.agg (lgA la B.length lk cc), .int .u64 p, .slice b R.length d, .pointer (some ⟨gs, 0, none⟩)], .agg (lgA la B.length lk cc), .int .u64 p, .slice b R.length d, .pointer (some ⟨gs, 0, none⟩), .pointer (some ⟨gs, 0, none⟩), .agg (lgA la B.length lk cc), .int .u64 p, .agg (txA ⟨snd, sq, gas, fee, memo, tr⟩ a2 c2), .tuple #[.agg (acA y), .bool gb], .agg (lgA la B.length lk cc), .pointer (some ⟨g17, 0, none⟩), .string snd, .tuple #[.agg (acA y), .bool gb], .agg (acA y), .bool gb, .tuple #[.slice bE M6.length dE, .int .i64 e6], .agg (txA ⟨snd, sq, gas, fee, memo, tr⟩ a2 c2), .tuple #[.slice bE M6.length dE, .int .i64 e6], .slice bE M6.length dE, .int .i64 e6, .slice bE M6.length dE, .int .i64 M6.length, .pointer (some ⟨g17, 5, none⟩), .slice a2 tr.length c2, .int .i64 tr.length, .int .u64 us, .pointer (some ⟨g17, 2, none⟩), .int .u64 gas, .int .u64 us, .int .u64 (IntKind.u64.wrap (us - 1)), .int .u64 us, .int .u64 us, .int .u64 (IntKind.u64.wrap (us + 1)), .slice (some ⟨gR8, 0, none⟩) 5 5, .int .i64 x2, .int .i64 v8, .pointer (some ⟨gR8, 0 + v8 * 1, none⟩), .int .u64 y8, .pointer (some ⟨g17, 2, none⟩), .tuple #[.int .u64 mv, .bool mb], .pointer (some ⟨g17, 2, none⟩), .int .u64 y8, .int .u64 p, .tuple #[.int .u64 mv, .bool mb], .int .u64 mv, .bool mb, .pointer (some ⟨g17, 3, none⟩), .int .u64 fee, .int .u64 mv, .int .u64 (IntKind.u64.wrap (mv - 1)), .int .u64 mv, .int .u64 mv, .int .u64 (IntKind.u64.wrap (mv + 1)), .pointer (some ⟨g18, 1, none⟩), .int .u64 y.2.1, .slice (some ⟨gR10, 0, none⟩) 6 6, .int .i64 x1, .int .i64 v10, .pointer (some ⟨gR10, 0 + v10 * 1, none⟩), .int .u64 y10, .pointer (some ⟨g17, 3, none⟩), (cond b0 (.pointer (some ⟨g17, 1, none⟩)) undef), (cond b1 (.int .u64 sq) undef), (cond b2 (.int .i64 x3) undef), (cond b3 (.int .i64 v11) undef), (cond b4 (.int .u64 (IntKind.u64.wrap ((v11 : Nat)))) undef), (cond b5 (.int .u64 (IntKind.u64.wrap (IntKind.u64.wrap ((v11 : Nat)) - 1))) undef), (cond b6 (.int .u64 q11) undef), (cond b7 (.pointer (some ⟨g17, 1, none⟩)) undef), undef, undef, undef, undef, undef, undef, undef, undef, undef, undef, undef, undef, undef, undef, undef, undef, undef, undef, undef, undef, undef, undef, undef, undef, undef, undef, undef, undef, undef, undef, undef, undef, undef, undef, undef, undef, undef, undef, undef, undef, undef, undef, undef, undef, undef, undef, undef, undef, undef, undef, undef, undef, undef, undef, undef, undef, undef, undef, undef, undef, undef, undef, undef, undef, undef, undef, undef, undef, undef, undef, undef, undef, undef, undef, undef, undef, undef, undef, undef, undef, undef, undef, undef, undef], defers := [] } ∧ KR5 b1 b6 b6 b6 b8 W0 W0 W2 V) (by kernel_rfl) (by kernel_rfl) ?_ ?_ ?_
   ·exact ⟨false, false, false, false, false, false, false, false, false, rfl, rfl, h0⟩
   ·intro i9 listed act9 V hi9 hr hJ
    obtain ⟨b0, b1, b2, b3, b4, b5, b6, b7, b8, rfl, rfl, hF⟩ := hJ
    have hi2 : i9 < 9 := hi9
    have hi3 : i9 = 0 ∨ i9 = 1 ∨ i9 = 2 ∨ i9 = 3 ∨ i9 = 4 ∨ i9 = 5 ∨ i9 = 6 ∨ i9 = 7 ∨ i9 = 8 := by omega
    rcases hi3 with rfl | rfl | rfl | rfl | rfl | rfl | rfl | rfl | rfl
    ·obtain rfl : b0 = false := ready_self hr
     refine st_val rfl (by kernel_rfl) (some 99) rfl (.pointer (some ⟨g17, 1, none⟩)) V (by kernel_rfl) ?_
     exact ⟨true, b1, b2, b3, b4, b5, b6, b7, b8, rfl, rfl, hF⟩
    ·obtain rfl : b1 = false := ready_self hr
     obtain rfl : b0 = true := ready_dep hr 0 (by kernel_rfl)
     obtain ⟨-, -, rfl, rfl, hV0⟩ := hF.l0
     refine st_load rfl (by kernel_rfl) (some 100) rfl 23 (.tmp 99) rfl ⟨g17, 1, none⟩ (.int .u64 sq) (by kernel_rfl) (by rw [hV0]; exact HE1.x17.load (i := 1) rfl (by kernel_rfl)) ?_
     exact ⟨true, true, b2, b3, b4, b5, false, b7, false, rfl, rfl, hF.l1⟩
    ·obtain rfl : b2 = false := ready_self hr
     refine st_val rfl (by kernel_rfl) (some 101) rfl (.int .i64 x3) V (by kernel_rfl) ?_
     exact ⟨b0, b1, true, b3, b4, b5, b6, b7, b8, rfl, rfl, hF⟩
    ·obtain rfl : b3 = false := ready_self hr
     obtain rfl : b2 = true := ready_dep hr 2 (by kernel_rfl)
     refine st_call rfl (by kernel_rfl) (some 102) rfl 18 #[.int .i64 x3, .int .i64 3] (by kernel_rfl) ((CPL V).mono fun e w9 z => ?_)
     obtain ⟨rfl, rfl⟩ := z
     exact ⟨_, rfl, b0, b1, true, true, b4, b5, b6, b7, b8, rfl, rfl, hF⟩
    ·obtain rfl : b4 = false := ready_self hr
     obtain rfl : b3 = true := ready_dep hr 3 (by kernel_rfl)
     refine st_val rfl (by kernel_rfl) (some 103) rfl (.int .u64 (IntKind.u64.wrap ((v11 : Nat)))) V (conv_iu9 rfl v11 (by kernel_rfl) _) ?_
     exact ⟨b0, b1, b2, true, true, b5, b6, b7, b8, rfl, rfl, hF⟩
    ·obtain rfl : b5 = false := ready_self hr
     obtain rfl : b4 = true := ready_dep hr 4 (by kernel_rfl)
     refine st_val rfl (by kernel_rfl) (some 104) rfl (.int .u64 (IntKind.u64.wrap (IntKind.u64.wrap ((v11 : Nat)) - 1))) V (sub_uw rfl (IntKind.u64.wrap ((v11 : Nat))) 1 (by kernel_rfl) (by kernel_rfl) _) ?_
     exact ⟨b0, b1, b2, b3, true, true, b6, b7, b8, rfl, rfl, hF⟩
    ·obtain rfl : b6 = false := ready_self hr
     obtain rfl : b1 = true := ready_dep hr 1 (by kernel_rfl)
     obtain rfl : b5 = true := ready_dep hr 5 (by kernel_rfl)
     obtain ⟨-, -, rfl, hV0⟩ := hF.b0
     refine st_val rfl (by kernel_rfl) (some 105) rfl (.int .u64 q11) V (by rw [← HQE.out]; exact add_uw rfl sq (IntKind.u64.wrap (IntKind.u64.wrap ((v11 : Nat)) - 1)) (by kernel_rfl) (by kernel_rfl) _) ?_
     exact ⟨b0, true, b2, b3, b4, true, true, b7, false, rfl, rfl, ⟨fun _ => rfl, fun _ => rfl, fun _ => rfl, (fun e => nomatch e), hV0⟩⟩
    ·obtain rfl : b7 = false := ready_self hr
     refine st_val rfl (by kernel_rfl) (some 106) rfl (.pointer (some ⟨g17, 1, none⟩)) V (by kernel_rfl) ?_
     exact ⟨b0, b1, b2, b3, b4, b5, b6, true, b8, rfl, rfl, hF⟩
    ·obtain rfl : b8 = false := ready_self hr
     obtain rfl : b7 = true := ready_dep hr 7 (by kernel_rfl)
     obtain rfl : b6 = true := ready_dep hr 6 (by kernel_rfl)
     obtain ⟨-, hV1⟩ := hF.s0
     refine st_storeA rfl (by kernel_rfl) rfl 23 (.tmp 106) (.tmp 105) rfl (.pointer (some ⟨g17, 1, none⟩)) (.int .u64 q11) (by kernel_rfl) (by kernel_rfl) W2 (by rw [hV1]; exact hsS) ?_
     exact ⟨b0, b1, b2, b3, b4, b5, true, true, true, rfl, rfl, hF.s1⟩
   ·intro act9 V hJ
    obtain ⟨b0, b1, b2, b3, b4, b5, b6, b7, b8, he, rfl, hF⟩ := hJ
    have he : (#[true, true, true, true, true, true, true, true, true] : Array Bool) = #[b0, b1, b2, b3, b4, b5, b6, b7, b8] := he
    simp only [Array.mk.injEq, List.cons.injEq, and_true] at he
    obtain ⟨rfl, rfl, rfl, rfl, rfl, rfl, rfl, rfl, rfl⟩ := he
    simp only [cond_true]
    have hVW : V = W2 := hF.is
    rw [hVW]
    clear hVW hF h0
    generalize W2 = V11 at *
    have HE11 := Lib.hid hE2
    clear HW0 CPL HE1 hsS hE2 HE10 HQE
    have CPL := fun U => mk_place x3 2 U (by decide) (by decide)
    have hpr := pl_range x3 2 (by decide)
    obtain ⟨v12, hpv⟩ : ∃ v : Nat, pl x3 2 = v := ⟨(pl x3 2).toNat, by omega⟩
    rw [hpv] at CPL
    clear hpv hpr
    obtain ⟨tb, htb⟩ : ∃ tb, decide ((v12 : Int) = 0) = tb := ⟨_, rfl⟩
    have HTB := Lib.hid htb
    clear htb
    go_upto_region 12 with fail
    refine wl <| gz1 (.int .i64 x3) <| gzc (.int .i64 v12) (fun w' => V11 = w') (CPL V11) (fun V9 hV9 => ?_)
    subst hV9
    simp only [pu]
    refine gzw (.bool tb) (eql_n rfl v12 0 HTB.out) <| wn ?_
    simp only [pu]
    clear CPL HTB
    go_upto_if 109 with fail
    go_cut [12] (fun s12 wx => ∃ q12 : Int, s12 = .bool false ∧ Hid (W64 q12) ∧ Hid (ES w g3 g17 g18 la lk B cc y ⟨snd, q12, y8, y10, memo, tr⟩ a2 c2 wx))
    case first =>
     cases tb
     ·skip
      go_wp2_with fail
      go_meet
      exact ⟨q11, rfl, HQ11, HE11⟩
     ·skip
      obtain ⟨V12, hsS, hE2⟩ := HE11.out.st (t' := ⟨snd, y.2.2, y8, y10, memo, tr⟩) (i := 1) (ty := 23) (v := .int .u64 y.2.2) HG17.out.1 HG17.out.2.1 HG18.out.1 HLA.out HTA.out (by decide) rfl (by kernel_rfl) rfl rfl
      have HE12 := Lib.hid hE2
      have HQ12 := Lib.hid HYW.out.2
      clear hE2
      go_upto_region 13 with fail
      refine wl <| gz1 (.pointer (some ⟨g18, 2, none⟩)) <| gzl rfl ⟨g18, 2, none⟩ (.int .u64 y.2.2) (HE11.out.x18.load (i := 2) rfl (by kernel_rfl)) <| gz1 (.pointer (some ⟨g17, 1, none⟩)) <| gzs rfl (hsS) <| wn ?_
      simp only [pu]
      go_wp2_with fail
      go_meet
      exact ⟨y.2.2, rfl, HQ12, HE12⟩
    case rest =>
     obtain ⟨q12, rfl, HQ12, HE12⟩ := hcut
     clear HE11 HQ11
     generalize wc = V12 at *
     have hbn : Below V12.heap.size V12 (V12.alloc (.cells #[] 59)) := (Below.refl _ V12).alloc (Nat.le_refl _) _
     have hnl := nil_tfs V12
     have hrn : RowT (V12.alloc (.cells #[] 59)) V12.heap.size (.slice (some ⟨V12.heap.size, 0, none⟩) 0 0) [] := own_nil V12 59 2
     generalize V12.alloc (.cells #[] 59) = Vn at *
     obtain ⟨a5, c5, V13, hap, hrow, hb13⟩ := app_tfs hrn hbn.size a2 c2 tr (HE12.out.tr.below hbn) (by have := HTL.out; omega)
     have hb12 := hbn.trans hb13
     obtain ⟨gT, hgT, hBT⟩ := row_some hrow HTL.out.1
     subst hgT
     have hEb := HE12.out.below hbn
     have hEc := HE12.out.below hb12
     obtain ⟨V14, hst14, hX14, hb14, hbt14⟩ := st_cell (i := 5) (ty := 44) (v := .slice (some ⟨gT, 0, none⟩) tr.length c5) (cs' := txA ⟨snd, q12, y8, y10, memo, tr⟩ (some ⟨gT, 0, none⟩) c5) hEc.x17 hEc.bel HG17.out.1 (by show 5 < 6; decide) rfl (by kernel_rfl) rfl
     have hg12 : g17 < V12.heap.size := HE12.out.x17.lt
     have hr14 : RowT V14 V12.heap.size (.slice (some ⟨gT, 0, none⟩) tr.length c5) tr := own_but hrow hbt14 hg12
     obtain ⟨a9, c9, e9, hct14, -⟩ := own_cs hr14
     simp only [Value.slice.injEq, true_and] at e9
     obtain ⟨rfl, rfl⟩ := e9
     have HE14 : Hid (ES w g3 g17 g18 la lk B cc y ⟨snd, q12, y8, y10, memo, tr⟩ (some ⟨gT, 0, none⟩) c5 V14) := Lib.hid ⟨hb14, hEc.x3.but hbt14 HG17.out.2.1, cs_butn hEc.cl hbt14 (fun hn x hx => by have := HLA.out hn x hx; omega), hX14, hEc.x18.but hbt14 HG18.out.1, hct14⟩
     have HR14 := Lib.hid hr14
     have HGT : Hid (g3 ≠ gT ∧ g17 ≠ gT ∧ g18 ≠ gT ∧ g17 < gT ∧ w.heap.size ≤ gT) := Lib.hid (by have h1 := HE12.out.x3.lt; have h2 := HE12.out.x18.lt; have h3 := HG17.out; have h4 := HE12.out.bel.size; omega)
     obtain ⟨gn, hgn⟩ : ∃ g, V12.heap.size = g := ⟨_, rfl⟩
     rw [hgn] at hnl hap hrow HR14
     have HGN : Hid (w.heap.size ≤ gn ∧ g17 < gn ∧ gn ≤ gT) := Lib.hid (by have := HE12.out.bel.size; omega)
     have hx17n := hEb.x17
     clear hrn hb13 hb12 hEb hEc hX14 hb14 hbt14 hg12 hr14 hct14 hrow
     go_upto_region 14 with fail
     apply wp_region_lit
     refine gw_build (by kernel_rfl) (some 113) rfl 44 0 #[] rfl #[] (by kernel_rfl) (.slice (some ⟨gn, 0, none⟩) 0 0) _ hnl ?_
     simp only [pu]
     refine gz1 (.pointer (some ⟨g17, 5, none⟩)) <| gzl rfl ⟨g17, 5, none⟩ (.slice a2 tr.length c2) (hx17n.load (i := 5) rfl (by kernel_rfl)) ?_
     simp only [pu]
     refine append_step rfl (some 116) rfl 44 rfl (.tmp 113) (.tmp 115) 44 rfl (.slice (some ⟨gn, 0, none⟩) 0 0) (.slice a2 tr.length c2) (.slice (some ⟨gT, 0, none⟩) tr.length c5) V13 (by kernel_rfl) (by kernel_rfl) hap ?_
     simp only [pu]
     refine gz1 (.pointer (some ⟨g17, 5, none⟩)) <| gzs rfl (hst14) <| wn ?_
     simp only [pu]
     clear hnl hap hst14 hx17n hbn hgn HE12
     obtain ⟨am0, ham0⟩ : ∃ a, (tfa tr 0).2 = a := ⟨_, rfl⟩
     have HAM : Hid (W64 am0) := Lib.hid (by rw [← ham0, tfa_get HTL.out.1]; exact HOK.out.am _ (List.getElem_mem _))
     have hload : ∀ U, Cs U (some ⟨gT, 0, none⟩) (tfc tr) → (Instr.loadAt 23 (.pointer (some ⟨gT, 0 + 0 * 2 + 1, none⟩))).run Tryz.prog U = .ok (.int .u64 am0) U := fun U hU => by
      obtain ⟨b, off, e, -, hc⟩ := hU 1 _ (tfc_at tr 0 HTL.out.1).2
      simp only [Option.some.injEq, Addr.mk.injEq, and_true] at e
      obtain ⟨rfl, rfl⟩ := e
      rw [ham0] at hc
      exact load_cell hc (by kernel_rfl)
     clear ham0
     go_upto_region 15 with fail
     have CPL := fun U => mk_place x4 6 U (by decide) (by decide)
     have hpr := pl_range x4 6 (by decide)
     obtain ⟨v15, hpv⟩ : ∃ v : Nat, pl x4 6 = v := ⟨(pl x4 6).toNat, by omega⟩
     rw [hpv] at CPL hpr
     have hvl : v15 < 6 := by omega
     clear hpv hpr
     obtain ⟨W0, hW0⟩ : ∃ W0, V14.drew = W0 := ⟨_, rfl⟩
     have HEA := HE14.out.drew
     rw [hW0] at HEA
     have HW0 := Lib.hid hW0
     have hbW := build_w6 am0 (IntKind.u64.wrap (y.2.1 - y10)) (IntKind.u64.wrap (IntKind.u64.wrap (y.2.1 - y10) + 1)) (y.2.1) (IntKind.u64.wrap (18446744073709551615 - y10)) (IntKind.u64.wrap (-y10)) W0
     have hb01 : Below W0.heap.size W0 (W0.alloc (.cells (wds [am0, IntKind.u64.wrap (y.2.1 - y10), IntKind.u64.wrap (IntKind.u64.wrap (y.2.1 - y10) + 1), y.2.1, IntKind.u64.wrap (18446744073709551615 - y10), IntKind.u64.wrap (-y10)]) 23)) := (Below.refl _ W0).alloc (Nat.le_refl _) _
     have hxR : Bx (W0.alloc (.cells (wds [am0, IntKind.u64.wrap (y.2.1 - y10), IntKind.u64.wrap (IntKind.u64.wrap (y.2.1 - y10) + 1), y.2.1, IntKind.u64.wrap (18446744073709551615 - y10), IntKind.u64.wrap (-y10)]) 23)) W0.heap.size (wds [am0, IntKind.u64.wrap (y.2.1 - y10), IntKind.u64.wrap (IntKind.u64.wrap (y.2.1 - y10) + 1), y.2.1, IntKind.u64.wrap (18446744073709551615 - y10), IntKind.u64.wrap (-y10)]) 23 := heap_alloc_last W0 _
     generalize W0.alloc (.cells (wds [am0, IntKind.u64.wrap (y.2.1 - y10), IntKind.u64.wrap (IntKind.u64.wrap (y.2.1 - y10) + 1), y.2.1, IntKind.u64.wrap (18446744073709551615 - y10), IntKind.u64.wrap (-y10)]) 23) = W1 at *
     obtain ⟨gR15, hgR⟩ : ∃ g, W0.heap.size = g := ⟨_, rfl⟩
     rw [hgR] at hbW hxR
     obtain ⟨y15, hly, hyw⟩ := ld_ws hxR (i := v15) ((mem_w (HAM.out) (mem_w (w64_wrap _) (mem_w (w64_wrap _) (mem_w (HYW.out.1) (mem_w (w64_wrap _) (mem_w (w64_wrap _) (fun x hx => nomatch hx)))))))) (by show v15 < 6; exact hvl)
     have HQY := Lib.hid hyw
     have HE1 := HEA.below hb01
     have hr0 : RowT W0 gn (.slice (some ⟨gT, 0, none⟩) tr.length c5) tr := by rw [← hW0]; exact HR14.out
     have HR1 := Lib.hid (own_below hr0 hb01)
     clear hr0
     clear hW0 hxR hyw
     obtain ⟨W2, hsS, hrow2, hb2, hbt2⟩ := set_am HR1.out rfl HTL.out.1 y15
     obtain ⟨a9, c9, e9, hct2, -⟩ := own_cs hrow2
     rw [List.length_set] at e9
     simp only [Value.slice.injEq, true_and] at e9
     obtain ⟨rfl, rfl⟩ := e9
     have hE2 : ES w g3 g17 g18 la lk B cc y ⟨snd, q12, y8, y10, memo, tr.set 0 ((tfa tr 0).1, y15)⟩ (some ⟨gT, 0, none⟩) c5 W2 := ⟨HE1.bel.trans (hbt2.1.mono HGT.out.2.2.2.2), HE1.x3.but hbt2 HGT.out.1, cs_butn HE1.cl hbt2 (fun hn x hx => by have := HLA.out hn x hx; have := HGT.out; omega), by have h9 := HE1.x17.but hbt2 HGT.out.2.1; simpa [txA, List.length_set] using h9, HE1.x18.but hbt2 HGT.out.2.2.1, hct2⟩
     have hX17 := HE1.x17.but hbt2 HGT.out.2.1
     have HE15 := Lib.hid hE2
     have h0 : KR5 false false false false false W0 W1 W2 V14.drew := by rw [HW0.out]; exact KR5.start
     refine wp_region_inv (fun listed act9 V => ∃ b0 b1 b2 b3 b4 b5 b6 b7 b8 b9 b10 b11 b12 b13 b14 b15 b16 b17 b18 b19 b20 b21 b22 b23 b24 b25 b26 b27 b28 b29 b30 b31 b32 b33 : Bool, listed = #[b0, b1, b2, b3, b4, b5, b6, b7, b8, b9, b10, b11, b12, b13, b14, b15, b16, b17, b18, b19, b20, b21, b22, b23, b24, b25, b26, b27, b28, b29, b30, b31, b32, b33] ∧ act9 = { tmps := #[.slice ak L.length ck, .int .i64 x1, .int .i64 x2, .int .i64 x3, .int .i64 x4, .int .i64 x5, undef, undef, undef, undef, undef, undef, .bool false, .pointer (some ⟨g3, 0, none⟩), .int .u64 p, .slice b R.length d, .pointer (some ⟨gs, 0, none⟩), .pointer (some ⟨g17, 0, none⟩), .pointer (some ⟨g18, 0, none⟩), .bool gb, .slice bE M6.length dE, .int .i64 e6, .int .u64 us, .int .u64 mv, .bool mb, undef, undef, undef, undef, undef, undef, u31, u32, u33, u34, u35, u36, u37, u38, u39, u40, u41, u42, u43, u44, u45, u46, u47, u48, u49, u50, u51, u52, u53, u54, u55, u56, u57, u58, u59, u60, u61, u62, u63, u64, u65, u66, u67, u68, u69, u70, u71, u72, u73, u74, u75, u76, u77, u78, u79, u80, u81, u82, u83, u84, u85, u86, u87, u88, u89, u90, u91, u92, u93, u94, u95, u96, u97, u98, u99, u100, u101, u102, u103, u104, u105, u106, u107, u108, u109, u110, u111, u112, .slice (some ⟨gn, 0, none⟩) 0 0, .pointer (some ⟨g17, 5, none⟩), .slice a2 tr.length c2, .slice (some ⟨gT, 0, none⟩) tr.length c5, .pointer (some ⟨g17, 5, none⟩), (cond b0 (.pointer (some ⟨g17, 5, none⟩)) (u118)), (cond b1 (.slice (some ⟨gT, 0, none⟩) tr.length c5) (u119)), (cond b2 (.pointer (some ⟨g17, 5, none⟩)) (u120)), (cond b3 (.slice (some ⟨gT, 0, none⟩) tr.length c5) (u121)), (cond b4 (.pointer (some ⟨gT, 0 + 0 * 2, none⟩)) (u122)), (cond b5 (.pointer (some ⟨gT, 0 + 0 * 2 + 1, none⟩)) (u123)), (cond b6 (.int .u64 am0) (u124)), (cond b7 (.pointer (some ⟨g18, 1, none⟩)) (u125)), (cond b8 (.int .u64 y.2.1) (u126)), (cond b9 (.pointer (some ⟨g17, 3, none⟩)) (u127)), (cond b10 (.int .u64 y10) (u128)), (cond b11 (.int .u64 (IntKind.u64.wrap (y.2.1 - y10))) (u129)), (cond b12 (.pointer (some ⟨g18, 1, none⟩)) (u130)), (cond b13 (.int .u64 y.2.1) (u131)), (cond b14 (.pointer (some ⟨g17, 3, none⟩)) (u132)), (cond b15 (.int .u64 y10) (u133)), (cond b16 (.int .u64 (IntKind.u64.wrap (y.2.1 - y10))) (u134)), (cond b17 (.int .u64 (IntKind.u64.wrap (IntKind.u64.wrap (y.2.1 - y10) + 1))) (u135)), (cond b18 (.pointer (some ⟨g18, 1, none⟩)) (u136)), (cond b19 (.int .u64 y.2.1) (u137)), (cond b20 (.pointer (some ⟨g17, 3, none⟩)) (u138)), (cond b21 (.int .u64 y10) (u139)), (cond b22 (.int .u64 (IntKind.u64.wrap (18446744073709551615 - y10))) (u140)), (cond b23 (.pointer (some ⟨g17, 3, none⟩)) (u141)), (cond b24 (.int .u64 y10) (u142)), (cond b25 (.int .u64 (IntKind.u64.wrap (-y10))) (u143)), (cond b26 (.slice (some ⟨gR15, 0, none⟩) 6 6) (u144)), (cond b27 (.int .i64 x4) (u145)), (cond b28 (.int .i64 v15) (u146)), (cond b29 (.pointer (some ⟨gR15, 0 + v15 * 1, none⟩)) (u147)), (cond b30 (.int .u64 y15) (u148)), (cond b31 (.pointer (some ⟨gT, 0 + 0 * 2, none⟩)) (u149)), (cond b32 (.pointer (some ⟨gT, 0 + 0 * 2 + 1, none⟩)) (u150)), u151, u152, u153, u154, u155, u156, u157, u158, u159, u160, u161, u162, u163, u164, u165, u166, u167, u168, u169, u170, u171, u172, u173, u174, u175, u176, u177, u178, u179, u180, u181, u182, u183, u184, u185, u186, u187, u188, u189, u190], defers := [] } ∧ KR5 b6 b26 b29 b30 b33 W0 W1 W2 V) (by kernel_rfl) (by kernel_rfl) ?_ ?_ ?_
     ·exact ⟨false, false, false, false, false, false, false, false, false, false, false, false, false, false, false, false, false, false, false, false, false, false, false, false, false, false, false, false, false, false, false, false, false, false, rfl, rfl, h0⟩
     ·intro i9 listed act9 V hi9 hr hJ
      obtain ⟨b0, b1, b2, b3, b4, b5, b6, b7, b8, b9, b10, b11, b12, b13, b14, b15, b16, b17, b18, b19, b20, b21, b22, b23, b24, b25, b26, b27, b28, b29, b30, b31, b32, b33, rfl, rfl, hF⟩ := hJ
      have hi2 : i9 < 34 := hi9
      have hi3 : i9 = 0 ∨ i9 = 1 ∨ i9 = 2 ∨ i9 = 3 ∨ i9 = 4 ∨ i9 = 5 ∨ i9 = 6 ∨ i9 = 7 ∨ i9 = 8 ∨ i9 = 9 ∨ i9 = 10 ∨ i9 = 11 ∨ i9 = 12 ∨ i9 = 13 ∨ i9 = 14 ∨ i9 = 15 ∨ i9 = 16 ∨ i9 = 17 ∨ i9 = 18 ∨ i9 = 19 ∨ i9 = 20 ∨ i9 = 21 ∨ i9 = 22 ∨ i9 = 23 ∨ i9 = 24 ∨ i9 = 25 ∨ i9 = 26 ∨ i9 = 27 ∨ i9 = 28 ∨ i9 = 29 ∨ i9 = 30 ∨ i9 = 31 ∨ i9 = 32 ∨ i9 = 33 := by omega
      rcases hi3 with rfl | rfl | rfl | rfl | rfl | rfl | rfl | rfl | rfl | rfl | rfl | rfl | rfl | rfl | rfl | rfl | rfl | rfl | rfl | rfl | rfl | rfl | rfl | rfl | rfl | rfl | rfl | rfl | rfl | rfl | rfl | rfl | rfl | rfl
      ·obtain rfl : b0 = false := ready_self hr
       refine st_val rfl (by kernel_rfl) (some 118) rfl (.pointer (some ⟨g17, 5, none⟩)) V (by kernel_rfl) ?_
       exact ⟨true, b1, b2, b3, b4, b5, b6, b7, b8, b9, b10, b11, b12, b13, b14, b15, b16, b17, b18, b19, b20, b21, b22, b23, b24, b25, b26, b27, b28, b29, b30, b31, b32, b33, rfl, rfl, hF⟩
      ·obtain rfl : b1 = false := ready_self hr
       obtain rfl : b0 = true := ready_dep hr 0 (by kernel_rfl)
       refine st_load rfl (by kernel_rfl) (some 119) rfl 44 (.tmp 118) rfl ⟨g17, 5, none⟩ (.slice (some ⟨gT, 0, none⟩) tr.length c5) (by kernel_rfl) (hF.all (fun U => (Instr.loadAt 44 (.pointer (some ⟨g17, 5, none⟩))).run Tryz.prog U = .ok (.slice (some ⟨gT, 0, none⟩) tr.length c5) U) (HEA.x17.load (i := 5) rfl (by kernel_rfl)) (HE1.x17.load (i := 5) rfl (by kernel_rfl)) (hX17.load (i := 5) rfl (by kernel_rfl))) ?_
       exact ⟨true, true, b2, b3, b4, b5, b6, b7, b8, b9, b10, b11, b12, b13, b14, b15, b16, b17, b18, b19, b20, b21, b22, b23, b24, b25, b26, b27, b28, b29, b30, b31, b32, b33, rfl, rfl, hF⟩
      ·obtain rfl : b2 = false := ready_self hr
       refine st_val rfl (by kernel_rfl) (some 120) rfl (.pointer (some ⟨g17, 5, none⟩)) V (by kernel_rfl) ?_
       exact ⟨b0, b1, true, b3, b4, b5, b6, b7, b8, b9, b10, b11, b12, b13, b14, b15, b16, b17, b18, b19, b20, b21, b22, b23, b24, b25, b26, b27, b28, b29, b30, b31, b32, b33, rfl, rfl, hF⟩
      ·obtain rfl : b3 = false := ready_self hr
       obtain rfl : b2 = true := ready_dep hr 2 (by kernel_rfl)
       refine st_load rfl (by kernel_rfl) (some 121) rfl 44 (.tmp 120) rfl ⟨g17, 5, none⟩ (.slice (some ⟨gT, 0, none⟩) tr.length c5) (by kernel_rfl) (hF.all (fun U => (Instr.loadAt 44 (.pointer (some ⟨g17, 5, none⟩))).run Tryz.prog U = .ok (.slice (some ⟨gT, 0, none⟩) tr.length c5) U) (HEA.x17.load (i := 5) rfl (by kernel_rfl)) (HE1.x17.load (i := 5) rfl (by kernel_rfl)) (hX17.load (i := 5) rfl (by kernel_rfl))) ?_
       exact ⟨b0, b1, true, true, b4, b5, b6, b7, b8, b9, b10, b11, b12, b13, b14, b15, b16, b17, b18, b19, b20, b21, b22, b23, b24, b25, b26, b27, b28, b29, b30, b31, b32, b33, rfl, rfl, hF⟩
      ·obtain rfl : b4 = false := ready_self hr
       obtain rfl : b3 = true := ready_dep hr 3 (by kernel_rfl)
       refine st_val rfl (by kernel_rfl) (some 122) rfl (.pointer (some ⟨gT, 0 + 0 * 2, none⟩)) V (idx_tf gT 0 tr.length c5 0 HTL.out.1 _ _ _ rfl (by kernel_rfl) (by kernel_rfl)) ?_
       exact ⟨b0, b1, b2, true, true, b5, b6, b7, b8, b9, b10, b11, b12, b13, b14, b15, b16, b17, b18, b19, b20, b21, b22, b23, b24, b25, b26, b27, b28, b29, b30, b31, b32, b33, rfl, rfl, hF⟩
      ·obtain rfl : b5 = false := ready_self hr
       obtain rfl : b4 = true := ready_dep hr 4 (by kernel_rfl)
       refine st_val rfl (by kernel_rfl) (some 123) rfl (.pointer (some ⟨gT, 0 + 0 * 2 + 1, none⟩)) V (by kernel_rfl) ?_
       exact ⟨b0, b1, b2, b3, true, true, b6, b7, b8, b9, b10, b11, b12, b13, b14, b15, b16, b17, b18, b19, b20, b21, b22, b23, b24, b25, b26, b27, b28, b29, b30, b31, b32, b33, rfl, rfl, hF⟩
      ·obtain rfl : b6 = false := ready_self hr
       obtain rfl : b5 = true := ready_dep hr 5 (by kernel_rfl)
       obtain ⟨rfl, rfl, rfl, rfl, hV0⟩ := hF.l0
       refine st_load rfl (by kernel_rfl) (some 124) rfl 23 (.tmp 123) rfl ⟨gT, 0 + 0 * 2 + 1, none⟩ (.int .u64 am0) (by kernel_rfl) (by rw [hV0]; exact hload W0 HEA.tr) ?_
       exact ⟨b0, b1, b2, b3, b4, true, true, b7, b8, b9, b10, b11, b12, b13, b14, b15, b16, b17, b18, b19, b20, b21, b22, b23, b24, b25, false, b27, b28, false, false, b31, b32, false, rfl, rfl, hF.l1⟩
      ·obtain rfl : b7 = false := ready_self hr
       refine st_val rfl (by kernel_rfl) (some 125) rfl (.pointer (some ⟨g18, 1, none⟩)) V (by kernel_rfl) ?_
       exact ⟨b0, b1, b2, b3, b4, b5, b6, true, b8, b9, b10, b11, b12, b13, b14, b15, b16, b17, b18, b19, b20, b21, b22, b23, b24, b25, b26, b27, b28, b29, b30, b31, b32, b33, rfl, rfl, hF⟩
      ·obtain rfl : b8 = false := ready_self hr
       obtain rfl : b7 = true := ready_dep hr 7 (by kernel_rfl)
       refine st_load rfl (by kernel_rfl) (some 126) rfl 23 (.tmp 125) rfl ⟨g18, 1, none⟩ (.int .u64 y.2.1) (by kernel_rfl) (hF.all (fun U => (Instr.loadAt 23 (.pointer (some ⟨g18, 1, none⟩))).run Tryz.prog U = .ok (.int .u64 y.2.1) U) (HEA.x18.load (i := 1) rfl (by kernel_rfl)) (HE1.x18.load (i := 1) rfl (by kernel_rfl)) (hE2.x18.load (i := 1) rfl (by kernel_rfl))) ?_
       exact ⟨b0, b1, b2, b3, b4, b5, b6, true, true, b9, b10, b11, b12, b13, b14, b15, b16, b17, b18, b19, b20, b21, b22, b23, b24, b25, b26, b27, b28, b29, b30, b31, b32, b33, rfl, rfl, hF⟩
      ·obtain rfl : b9 = false := ready_self hr
       refine st_val rfl (by kernel_rfl) (some 127) rfl (.pointer (some ⟨g17, 3, none⟩)) V (by kernel_rfl) ?_
       exact ⟨b0, b1, b2, b3, b4, b5, b6, b7, b8, true, b10, b11, b12, b13, b14, b15, b16, b17, b18, b19, b20, b21, b22, b23, b24, b25, b26, b27, b28, b29, b30, b31, b32, b33, rfl, rfl, hF⟩
      ·obtain rfl : b10 = false := ready_self hr
       obtain rfl : b9 = true := ready_dep hr 9 (by kernel_rfl)
       refine st_load rfl (by kernel_rfl) (some 128) rfl 23 (.tmp 127) rfl ⟨g17, 3, none⟩ (.int .u64 y10) (by kernel_rfl) (hF.all (fun U => (Instr.loadAt 23 (.pointer (some ⟨g17, 3, none⟩))).run Tryz.prog U = .ok (.int .u64 y10) U) (HEA.x17.load (i := 3) rfl (by kernel_rfl)) (HE1.x17.load (i := 3) rfl (by kernel_rfl)) (hX17.load (i := 3) rfl (by kernel_rfl))) ?_
       exact ⟨b0, b1, b2, b3, b4, b5, b6, b7, b8, true, true, b11, b12, b13, b14, b15, b16, b17, b18, b19, b20, b21, b22, b23, b24, b25, b26, b27, b28, b29, b30, b31, b32, b33, rfl, rfl, hF⟩
      ·obtain rfl : b11 = false := ready_self hr
       obtain rfl : b8 = true := ready_dep hr 8 (by kernel_rfl)
       obtain rfl : b10 = true := ready_dep hr 10 (by kernel_rfl)
       refine st_val rfl (by kernel_rfl) (some 129) rfl (.int .u64 (IntKind.u64.wrap (y.2.1 - y10))) V (sub_uw rfl y.2.1 y10 (by kernel_rfl) (by kernel_rfl) _) ?_
       exact ⟨b0, b1, b2, b3, b4, b5, b6, b7, true, b9, true, true, b12, b13, b14, b15, b16, b17, b18, b19, b20, b21, b22, b23, b24, b25, b26, b27, b28, b29, b30, b31, b32, b33, rfl, rfl, hF⟩
      ·obtain rfl : b12 = false := ready_self hr
       refine st_val rfl (by kernel_rfl) (some 130) rfl (.pointer (some ⟨g18, 1, none⟩)) V (by kernel_rfl) ?_
       exact ⟨b0, b1, b2, b3, b4, b5, b6, b7, b8, b9, b10, b11, true, b13, b14, b15, b16, b17, b18, b19, b20, b21, b22, b23, b24, b25, b26, b27, b28, b29, b30, b31, b32, b33, rfl, rfl, hF⟩
      ·obtain rfl : b13 = false := ready_self hr
       obtain rfl : b12 = true := ready_dep hr 12 (by kernel_rfl)
       refine st_load rfl (by kernel_rfl) (some 131) rfl 23 (.tmp 130) rfl ⟨g18, 1, none⟩ (.int .u64 y.2.1) (by kernel_rfl) (hF.all (fun U => (Instr.loadAt 23 (.pointer (some ⟨g18, 1, none⟩))).run Tryz.prog U = .ok (.int .u64 y.2.1) U) (HEA.x18.load (i := 1) rfl (by kernel_rfl)) (HE1.x18.load (i := 1) rfl (by kernel_rfl)) (hE2.x18.load (i := 1) rfl (by kernel_rfl))) ?_
       exact ⟨b0, b1, b2, b3, b4, b5, b6, b7, b8, b9, b10, b11, true, true, b14, b15, b16, b17, b18, b19, b20, b21, b22, b23, b24, b25, b26, b27, b28, b29, b30, b31, b32, b33, rfl, rfl, hF⟩
      ·obtain rfl : b14 = false := ready_self hr
       refine st_val rfl (by kernel_rfl) (some 132) rfl (.pointer (some ⟨g17, 3, none⟩)) V (by kernel_rfl) ?_
       exact ⟨b0, b1, b2, b3, b4, b5, b6, b7, b8, b9, b10, b11, b12, b13, true, b15, b16, b17, b18, b19, b20, b21, b22, b23, b24, b25, b26, b27, b28, b29, b30, b31, b32, b33, rfl, rfl, hF⟩
      ·obtain rfl : b15 = false := ready_self hr
       obtain rfl : b14 = true := ready_dep hr 14 (by kernel_rfl)
       refine st_load rfl (by kernel_rfl) (some 133) rfl 23 (.tmp 132) rfl ⟨g17, 3, none⟩ (.int .u64 y10) (by kernel_rfl) (hF.all (fun U => (Instr.loadAt 23 (.pointer (some ⟨g17, 3, none⟩))).run Tryz.prog U = .ok (.int .u64 y10) U) (HEA.x17.load (i := 3) rfl (by kernel_rfl)) (HE1.x17.load (i := 3) rfl (by kernel_rfl)) (hX17.load (i := 3) rfl (by kernel_rfl))) ?_
       exact ⟨b0, b1, b2, b3, b4, b5, b6, b7, b8, b9, b10, b11, b12, b13, true, true, b16, b17, b18, b19, b20, b21, b22, b23, b24, b25, b26, b27, b28, b29, b30, b31, b32, b33, rfl, rfl, hF⟩
      ·obtain rfl : b16 = false := ready_self hr
       obtain rfl : b13 = true := ready_dep hr 13 (by kernel_rfl)
       obtain rfl : b15 = true := ready_dep hr 15 (by kernel_rfl)
       refine st_val rfl (by kernel_rfl) (some 134) rfl (.int .u64 (IntKind.u64.wrap (y.2.1 - y10))) V (sub_uw rfl y.2.1 y10 (by kernel_rfl) (by kernel_rfl) _) ?_
       exact ⟨b0, b1, b2, b3, b4, b5, b6, b7, b8, b9, b10, b11, b12, true, b14, true, true, b17, b18, b19, b20, b21, b22, b23, b24, b25, b26, b27, b28, b29, b30, b31, b32, b33, rfl, rfl, hF⟩
      ·obtain rfl : b17 = false := ready_self hr
       obtain rfl : b16 = true := ready_dep hr 16 (by kernel_rfl)
       refine st_val rfl (by kernel_rfl) (some 135) rfl (.int .u64 (IntKind.u64.wrap (IntKind.u64.wrap (y.2.1 - y10) + 1))) V (add_uw rfl (IntKind.u64.wrap (y.2.1 - y10)) 1 (by kernel_rfl) (by kernel_rfl) _) ?_
       exact ⟨b0, b1, b2, b3, b4, b5, b6, b7, b8, b9, b10, b11, b12, b13, b14, b15, true, true, b18, b19, b20, b21, b22, b23, b24, b25, b26, b27, b28, b29, b30, b31, b32, b33, rfl, rfl, hF⟩
      ·obtain rfl : b18 = false := ready_self hr
       refine st_val rfl (by kernel_rfl) (some 136) rfl (.pointer (some ⟨g18, 1, none⟩)) V (by kernel_rfl) ?_
       exact ⟨b0, b1, b2, b3, b4, b5, b6, b7, b8, b9, b10, b11, b12, b13, b14, b15, b16, b17, true, b19, b20, b21, b22, b23, b24, b25, b26, b27, b28, b29, b30, b31, b32, b33, rfl, rfl, hF⟩
      ·obtain rfl : b19 = false := ready_self hr
       obtain rfl : b18 = true := ready_dep hr 18 (by kernel_rfl)
       refine st_load rfl (by kernel_rfl) (some 137) rfl 23 (.tmp 136) rfl ⟨g18, 1, none⟩ (.int .u64 y.2.1) (by kernel_rfl) (hF.all (fun U => (Instr.loadAt 23 (.pointer (some ⟨g18, 1, none⟩))).run Tryz.prog U = .ok (.int .u64 y.2.1) U) (HEA.x18.load (i := 1) rfl (by kernel_rfl)) (HE1.x18.load (i := 1) rfl (by kernel_rfl)) (hE2.x18.load (i := 1) rfl (by kernel_rfl))) ?_
       exact ⟨b0, b1, b2, b3, b4, b5, b6, b7, b8, b9, b10, b11, b12, b13, b14, b15, b16, b17, true, true, b20, b21, b22, b23, b24, b25, b26, b27, b28, b29, b30, b31, b32, b33, rfl, rfl, hF⟩
      ·obtain rfl : b20 = false := ready_self hr
       refine st_val rfl (by kernel_rfl) (some 138) rfl (.pointer (some ⟨g17, 3, none⟩)) V (by kernel_rfl) ?_
       exact ⟨b0, b1, b2, b3, b4, b5, b6, b7, b8, b9, b10, b11, b12, b13, b14, b15, b16, b17, b18, b19, true, b21, b22, b23, b24, b25, b26, b27, b28, b29, b30, b31, b32, b33, rfl, rfl, hF⟩
      ·obtain rfl : b21 = false := ready_self hr
       obtain rfl : b20 = true := ready_dep hr 20 (by kernel_rfl)
       refine st_load rfl (by kernel_rfl) (some 139) rfl 23 (.tmp 138) rfl ⟨g17, 3, none⟩ (.int .u64 y10) (by kernel_rfl) (hF.all (fun U => (Instr.loadAt 23 (.pointer (some ⟨g17, 3, none⟩))).run Tryz.prog U = .ok (.int .u64 y10) U) (HEA.x17.load (i := 3) rfl (by kernel_rfl)) (HE1.x17.load (i := 3) rfl (by kernel_rfl)) (hX17.load (i := 3) rfl (by kernel_rfl))) ?_
       exact ⟨b0, b1, b2, b3, b4, b5, b6, b7, b8, b9, b10, b11, b12, b13, b14, b15, b16, b17, b18, b19, true, true, b22, b23, b24, b25, b26, b27, b28, b29, b30, b31, b32, b33, rfl, rfl, hF⟩
      ·obtain rfl : b22 = false := ready_self hr
       obtain rfl : b21 = true := ready_dep hr 21 (by kernel_rfl)
       refine st_val rfl (by kernel_rfl) (some 140) rfl (.int .u64 (IntKind.u64.wrap (18446744073709551615 - y10))) V (sub_uw rfl 18446744073709551615 y10 (by kernel_rfl) (by kernel_rfl) _) ?_
       exact ⟨b0, b1, b2, b3, b4, b5, b6, b7, b8, b9, b10, b11, b12, b13, b14, b15, b16, b17, b18, b19, b20, true, true, b23, b24, b25, b26, b27, b28, b29, b30, b31, b32, b33, rfl, rfl, hF⟩
      ·obtain rfl : b23 = false := ready_self hr
       refine st_val rfl (by kernel_rfl) (some 141) rfl (.pointer (some ⟨g17, 3, none⟩)) V (by kernel_rfl) ?_
       exact ⟨b0, b1, b2, b3, b4, b5, b6, b7, b8, b9, b10, b11, b12, b13, b14, b15, b16, b17, b18, b19, b20, b21, b22, true, b24, b25, b26, b27, b28, b29, b30, b31, b32, b33, rfl, rfl, hF⟩
      ·obtain rfl : b24 = false := ready_self hr
       obtain rfl : b23 = true := ready_dep hr 23 (by kernel_rfl)
       refine st_load rfl (by kernel_rfl) (some 142) rfl 23 (.tmp 141) rfl ⟨g17, 3, none⟩ (.int .u64 y10) (by kernel_rfl) (hF.all (fun U => (Instr.loadAt 23 (.pointer (some ⟨g17, 3, none⟩))).run Tryz.prog U = .ok (.int .u64 y10) U) (HEA.x17.load (i := 3) rfl (by kernel_rfl)) (HE1.x17.load (i := 3) rfl (by kernel_rfl)) (hX17.load (i := 3) rfl (by kernel_rfl))) ?_
       exact ⟨b0, b1, b2, b3, b4, b5, b6, b7, b8, b9, b10, b11, b12, b13, b14, b15, b16, b17, b18, b19, b20, b21, b22, true, true, b25, b26, b27, b28, b29, b30, b31, b32, b33, rfl, rfl, hF⟩
      ·obtain rfl : b25 = false := ready_self hr
       obtain rfl : b24 = true := ready_dep hr 24 (by kernel_rfl)
       refine st_val rfl (by kernel_rfl) (some 143) rfl (.int .u64 (IntKind.u64.wrap (-y10))) V (neg_uw rfl y10 (by kernel_rfl) _) ?_
       exact ⟨b0, b1, b2, b3, b4, b5, b6, b7, b8, b9, b10, b11, b12, b13, b14, b15, b16, b17, b18, b19, b20, b21, b22, b23, true, true, b26, b27, b28, b29, b30, b31, b32, b33, rfl, rfl, hF⟩
      ·obtain rfl : b26 = false := ready_self hr
       obtain rfl : b6 = true := ready_dep hr 6 (by kernel_rfl)
       obtain rfl : b11 = true := ready_dep hr 11 (by kernel_rfl)
       obtain rfl : b17 = true := ready_dep hr 17 (by kernel_rfl)
       obtain rfl : b19 = true := ready_dep hr 19 (by kernel_rfl)
       obtain rfl : b22 = true := ready_dep hr 22 (by kernel_rfl)
       obtain rfl : b25 = true := ready_dep hr 25 (by kernel_rfl)
       obtain ⟨rfl, rfl, rfl, hV0⟩ := hF.b0
       refine st_build rfl (by kernel_rfl) (some 144) rfl 36 6 #[(0, .tmp 124), (1, .tmp 129), (2, .tmp 135), (3, .tmp 137), (4, .tmp 140), (5, .tmp 143)] rfl #[(0, .int .u64 am0), (1, .int .u64 (IntKind.u64.wrap (y.2.1 - y10))), (2, .int .u64 (IntKind.u64.wrap (IntKind.u64.wrap (y.2.1 - y10) + 1))), (3, .int .u64 y.2.1), (4, .int .u64 (IntKind.u64.wrap (18446744073709551615 - y10))), (5, .int .u64 (IntKind.u64.wrap (-y10)))] (by kernel_rfl) (.slice (some ⟨gR15, 0, none⟩) 6 6) W1 (by rw [hV0]; exact hbW) ?_
       exact ⟨b0, b1, b2, b3, b4, b5, true, b7, b8, b9, b10, true, b12, b13, b14, b15, b16, true, b18, true, b20, b21, true, b23, b24, true, true, b27, b28, false, false, b31, b32, false, rfl, rfl, KR5.b1⟩
      ·obtain rfl : b27 = false := ready_self hr
       refine st_val rfl (by kernel_rfl) (some 145) rfl (.int .i64 x4) V (by kernel_rfl) ?_
       exact ⟨b0, b1, b2, b3, b4, b5, b6, b7, b8, b9, b10, b11, b12, b13, b14, b15, b16, b17, b18, b19, b20, b21, b22, b23, b24, b25, b26, true, b28, b29, b30, b31, b32, b33, rfl, rfl, hF⟩
      ·obtain rfl : b28 = false := ready_self hr
       obtain rfl : b27 = true := ready_dep hr 27 (by kernel_rfl)
       refine st_call rfl (by kernel_rfl) (some 146) rfl 18 #[.int .i64 x4, .int .i64 6] (by kernel_rfl) ((CPL V).mono fun e w9 z => ?_)
       obtain ⟨rfl, rfl⟩ := z
       exact ⟨_, rfl, b0, b1, b2, b3, b4, b5, b6, b7, b8, b9, b10, b11, b12, b13, b14, b15, b16, b17, b18, b19, b20, b21, b22, b23, b24, b25, b26, true, true, b29, b30, b31, b32, b33, rfl, rfl, hF⟩
      ·obtain rfl : b29 = false := ready_self hr
       obtain rfl : b26 = true := ready_dep hr 26 (by kernel_rfl)
       obtain rfl : b28 = true := ready_dep hr 28 (by kernel_rfl)
       obtain ⟨rfl, rfl⟩ := hF.i0
       refine st_val rfl (by kernel_rfl) (some 147) rfl (.pointer (some ⟨gR15, 0 + v15 * 1, none⟩)) V (idx_w gR15 0 6 6 v15 hvl _ rfl (by kernel_rfl) (by kernel_rfl)) ?_
       exact ⟨b0, b1, b2, b3, b4, b5, b6, b7, b8, b9, b10, b11, b12, b13, b14, b15, b16, b17, b18, b19, b20, b21, b22, b23, b24, b25, true, b27, true, true, false, b31, b32, false, rfl, rfl, hF.i1⟩
      ·obtain rfl : b30 = false := ready_self hr
       obtain rfl : b29 = true := ready_dep hr 29 (by kernel_rfl)
       obtain ⟨rfl, rfl, hV1⟩ := hF.y0
       refine st_load rfl (by kernel_rfl) (some 148) rfl 23 (.tmp 147) rfl ⟨gR15, 0 + v15 * 1, none⟩ (.int .u64 y15) (by kernel_rfl) (by rw [hV1]; exact hly) ?_
       exact ⟨b0, b1, b2, b3, b4, b5, b6, b7, b8, b9, b10, b11, b12, b13, b14, b15, b16, b17, b18, b19, b20, b21, b22, b23, b24, b25, true, b27, b28, true, true, b31, b32, false, rfl, rfl, hF.y1⟩
      ·obtain rfl : b31 = false := ready_self hr
       obtain rfl : b1 = true := ready_dep hr 1 (by kernel_rfl)
       refine st_val rfl (by kernel_rfl) (some 149) rfl (.pointer (some ⟨gT, 0 + 0 * 2, none⟩)) V (idx_tf gT 0 tr.length c5 0 HTL.out.1 _ _ _ rfl (by kernel_rfl) (by kernel_rfl)) ?_
       exact ⟨b0, true, b2, b3, b4, b5, b6, b7, b8, b9, b10, b11, b12, b13, b14, b15, b16, b17, b18, b19, b20, b21, b22, b23, b24, b25, b26, b27, b28, b29, b30, true, b32, b33, rfl, rfl, hF⟩
      ·obtain rfl : b32 = false := ready_self hr
       obtain rfl : b31 = true := ready_dep hr 31 (by kernel_rfl)
       refine st_val rfl (by kernel_rfl) (some 150) rfl (.pointer (some ⟨gT, 0 + 0 * 2 + 1, none⟩)) V (by kernel_rfl) ?_
       exact ⟨b0, b1, b2, b3, b4, b5, b6, b7, b8, b9, b10, b11, b12, b13, b14, b15, b16, b17, b18, b19, b20, b21, b22, b23, b24, b25, b26, b27, b28, b29, b30, true, true, b33, rfl, rfl, hF⟩
      ·obtain rfl : b33 = false := ready_self hr
       obtain rfl : b32 = true := ready_dep hr 32 (by kernel_rfl)
       obtain rfl : b30 = true := ready_dep hr 30 (by kernel_rfl)
       obtain ⟨hbb, hV1⟩ := hF.s0
       refine st_storeA rfl (by kernel_rfl) rfl 23 (.tmp 150) (.tmp 148) rfl (.pointer (some ⟨gT, 0 + 0 * 2 + 1, none⟩)) (.int .u64 y15) (by kernel_rfl) (by kernel_rfl) W2 (by rw [hV1]; exact hsS) ?_
       exact ⟨b0, b1, b2, b3, b4, b5, b6, b7, b8, b9, b10, b11, b12, b13, b14, b15, b16, b17, b18, b19, b20, b21, b22, b23, b24, b25, b26, b27, b28, b29, true, b31, true, true, rfl, rfl, hF.s1⟩
     ·intro act9 V hJ
      obtain ⟨b0, b1, b2, b3, b4, b5, b6, b7, b8, b9, b10, b11, b12, b13, b14, b15, b16, b17, b18, b19, b20, b21, b22, b23, b24, b25, b26, b27, b28, b29, b30, b31, b32, b33, he, rfl, hF⟩ := hJ
      have he : (#[true, true, true, true, true, true, true, true, true, true, true, true, true, true, true, true, true, true, true, true, true, true, true, true, true, true, true, true, true, true, true, true, true, true] : Array Bool) = #[b0, b1, b2, b3, b4, b5, b6, b7, b8, b9, b10, b11, b12, b13, b14, b15, b16, b17, b18, b19, b20, b21, b22, b23, b24, b25, b26, b27, b28, b29, b30, b31, b32, b33] := he
      simp only [Array.mk.injEq, List.cons.injEq, and_true] at he
      obtain ⟨rfl, rfl, rfl, rfl, rfl, rfl, rfl, rfl, rfl, rfl, rfl, rfl, rfl, rfl, rfl, rfl, rfl, rfl, rfl, rfl, rfl, rfl, rfl, rfl, rfl, rfl, rfl, rfl, rfl, rfl, rfl, rfl, rfl, rfl⟩ := he
      simp only [cond_true]
      have hVW : V = W2 := hF.is
      rw [hVW]
      clear hVW hF h0
      generalize W2 = V15 at *
      have hok2 : OkX ⟨snd, q12, y8, y10, memo, tr.set 0 ((tfa tr 0).1, y15)⟩ := ⟨HQ12.out, HGA.out, HFE.out, fun x hx => by rcases List.mem_or_eq_of_mem_set hx with h9 | h9; exact HOK.out.am x h9; rw [h9]; exact HQY.out, by have h9 := HOK.out.wt; unfold wtX at h9 ⊢; rw [trW_set]; exact h9⟩
      have HOK2 := Lib.hid hok2
      have CE := ref_encode ⟨snd, q12, y8, y10, memo, tr.set 0 ((tfa tr 0).1, y15)⟩ (some ⟨gT, 0, none⟩) c5 V15 HE15.out.tr hok2.b
      have heb := enc_by hok2.b
      obtain ⟨M6b, hM6⟩ : ∃ M, (encX ⟨snd, q12, y8, y10, memo, tr.set 0 ((tfa tr 0).1, y15)⟩).1 = M := ⟨_, rfl⟩
      rw [hM6] at heb
      obtain ⟨e16, he6⟩ : ∃ e, (encX ⟨snd, q12, y8, y10, memo, tr.set 0 ((tfa tr 0).1, y15)⟩).2 = e := ⟨_, rfl⟩
      clear HW0 CPL hvl hbW hb01 hly HQY hgR HEA HE1 hsS hE2 HR1 hrow2 hb2 hbt2 hct2 hX17 hload HE14 HR14 hok2
      go_upto_region 16 with fail
      refine wl <| gzl rfl ⟨g17, 0, none⟩ (.agg (txA ⟨snd, q12, y8, y10, memo, tr.set 0 ((tfa tr 0).1, y15)⟩ (some ⟨gT, 0, none⟩) c5)) (load_txb HE15.out.x17) <|
       gze (fun v w' => ∃ bE dE, v = .tuple #[.slice bE (List.length M6b) dE, .int .i64 e16] ∧ Sl w' bE dE M6b ∧ M6b.length ≤ dE ∧ Below V15.heap.size V15 w') (CE.mono fun e w' q => by obtain ⟨v, h1, h2, h3⟩ := q; obtain ⟨bE, dE, rfl, h4, h5⟩ := h2.sl; rw [hM6, he6] at h1; rw [hM6] at h4 h5; exact ⟨_, h1, bE, dE, rfl, h4, h5, h3⟩) (fun vv V16 hq => ?_)
      obtain ⟨bE, dE, rfl, hsE, hdE, hbE⟩ := hq
      simp only [pu]
      refine gz5 (.tuple #[.slice bE M6b.length dE, .int .i64 e16]) (.slice bE M6b.length dE) (.int .i64 e16) (.slice bE M6b.length dE) (.int .i64 e16) <| wn ?_
      simp only [pu]
      have HE16 := Lib.hid (HE15.out.below hbE)
      have HSE : Hid (Sl V16 bE dE M6b ∧ M6b.length ≤ dE ∧ ∀ x, x ∈ M6b → W8 x) := Lib.hid ⟨hsE, hdE, heb.1⟩
      obtain ⟨tb, htb⟩ : ∃ tb, (!decide (e16 = 0)) = tb := ⟨_, rfl⟩
      have HTB := Lib.hid htb
      clear htb CE hM6 he6 hsE hdE hbE heb HE15
      go_upto_region 17 with fail
      refine wl <| gz1 (.int .i64 e16) <| gzv (.bool tb) (by rw [← HTB.out]; exact neq_e rfl e16 0 rfl (by kernel_rfl) (by kernel_rfl) _) <| wn ?_
      simp only [pu]
      clear HTB
      go_upto_if 157 with fail
      go_cut [20] (fun s20 wx => ∃ (bF : Option Addr) (dF : Nat) (R9 : List Int), s20 = .slice bF (List.length R9) dF ∧ Hid (Sl wx bF dF R9 ∧ R9.length ≤ dF ∧ ∀ x, x ∈ R9 → W8 x) ∧ Hid (ES w g3 g17 g18 la lk B cc y ⟨snd, q12, y8, y10, memo, tr.set 0 ((tfa tr 0).1, y15)⟩ (some ⟨gT, 0, none⟩) c5 wx))
      case first =>
       cases tb
       ·skip
        go_wp2_with fail
        go_meet
        exact ⟨bE, dE, M6b, rfl, HSE, HE16⟩
       ·skip
        have CF := ref_form ⟨snd, q12, y8, y10, memo, tr.set 0 ((tfa tr 0).1, y15)⟩ (some ⟨gT, 0, none⟩) c5 V16 HE16.out.tr HOK2.out
        have hf8 : ∀ x, x ∈ form ⟨snd, q12, y8, y10, memo, tr.set 0 ((tfa tr 0).1, y15)⟩ → W8 x := msg_bytes HOK2.out.vf
        generalize form ⟨snd, q12, y8, y10, memo, tr.set 0 ((tfa tr 0).1, y15)⟩ = M9 at *
        go_upto_region 18 with fail
        refine wl <| gzl rfl ⟨g17, 0, none⟩ (.agg (txA ⟨snd, q12, y8, y10, memo, tr.set 0 ((tfa tr 0).1, y15)⟩ (some ⟨gT, 0, none⟩) c5)) (load_txb HE16.out.x17) <|
         gze (fun v w' => ∃ bG dG, v = .slice bG (List.length M9) dG ∧ Sl w' bG dG M9 ∧ M9.length ≤ dG ∧ Below V16.heap.size V16 w') (CF.mono fun e w' q => by obtain ⟨v, h1, h2, h3⟩ := q; obtain ⟨bG, dG, rfl, h4, h5⟩ := h2.sl; exact ⟨_, h1, bG, dG, rfl, h4, h5, h3⟩) (fun vv V17 hq => ?_)
        obtain ⟨bG, dG, rfl, hsG, hdG, hbG⟩ := hq
        simp only [pu]
        refine gz1 (.slice bG M9.length dG) <| wn ?_
        simp only [pu]
        have HSG : Hid (Sl V17 bG dG M9 ∧ M9.length ≤ dG ∧ ∀ x, x ∈ M9 → W8 x) := Lib.hid ⟨hsG, hdG, hf8⟩
        have HE17 := Lib.hid (HE16.out.below hbG)
        clear CF hf8 hsG hdG hbG
        go_wp2_with fail
        go_meet
        exact ⟨bG, dG, M9, rfl, HSG, HE17⟩
      case rest =>
       obtain ⟨bF, dF, R9, rfl, HSR, HES⟩ := hcut
       clear HSE HE16
       generalize wc = V18 at *
       have CPL := fun U => mk_place x5 5 U (by decide) (by decide)
       have hpr := pl_range x5 5 (by decide)
       obtain ⟨v19, hpv⟩ : ∃ v : Nat, pl x5 5 = v := ⟨(pl x5 5).toNat, by omega⟩
       rw [hpv] at CPL hpr
       have hvl : v19 < 5 := by omega
       clear hpv hpr
       have hbW := build_w5 p 0 1 9223372036854775808 18446744073709551615 V18
       have hb01 : Below V18.heap.size V18 (V18.alloc (.cells (wds [p, 0, 1, 9223372036854775808, 18446744073709551615]) 23)) := (Below.refl _ V18).alloc (Nat.le_refl _) _
       have hxR : Bx (V18.alloc (.cells (wds [p, 0, 1, 9223372036854775808, 18446744073709551615]) 23)) V18.heap.size (wds [p, 0, 1, 9223372036854775808, 18446744073709551615]) 23 := heap_alloc_last V18 _
       generalize V18.alloc (.cells (wds [p, 0, 1, 9223372036854775808, 18446744073709551615]) 23) = V19 at *
       obtain ⟨gR, hgR⟩ : ∃ g, V18.heap.size = g := ⟨_, rfl⟩
       rw [hgR] at hbW hxR
       obtain ⟨n19, hly, hnw⟩ := ld_ws hxR (i := v19) ((mem_w (HPW.out) (mem_w (w64_0) (mem_w (⟨by decide, by decide⟩) (mem_w (⟨by decide, by decide⟩) (mem_w (w64_max) (fun x hx => nomatch hx))))))) (by show v19 < 5; exact hvl)
       have HES9 := Lib.hid (HES.out.below hb01)
       have HSR9 := Lib.hid (sl_below HSR.out.1 hb01)
       go_upto_region 19 with fail
       refine wl <| gz1 (.int .u64 p) ?_
       simp only [pu]
       refine gw_build (by kernel_rfl) (some 161) rfl 36 5 #[(0, .tmp 160), (1, .const (.int .u64 0)), (2, .const (.int .u64 1)), (3, .const (.int .u64 9223372036854775808)), (4, .const (.int .u64 18446744073709551615))] rfl #[(0, .int .u64 p), (1, .int .u64 0), (2, .int .u64 1), (3, .int .u64 9223372036854775808), (4, .int .u64 18446744073709551615)] (by kernel_rfl) (.slice (some ⟨gR, 0, none⟩) 5 5) _ hbW ?_
       simp only [pu]
       refine gz1 (.int .i64 x5) <| gzc (.int .i64 v19) (fun w' => V19 = w') (CPL V19) (fun V9 hV9 => ?_)
       subst hV9
       simp only [pu]
       refine gzv (.pointer (some ⟨gR, 0 + v19 * 1, none⟩)) (idx_w gR 0 5 5 v19 hvl _ rfl (by kernel_rfl) (by kernel_rfl)) <| gzl rfl ⟨gR, 0 + v19 * 1, none⟩ (.int .u64 n19) (hly) <| gz1 (.int .u64 n19) <| wn ?_
       simp only [pu]
       obtain ⟨X, hX⟩ : ∃ X, txX B cc n19 R9 = X := ⟨_, rfl⟩
       have CT := tx_good HLQ.out hnw HES9.out.cl HLK.out HSR9.out HSR.out.2.1 HSR.out.2.2
       have CR := Lib.hid (fun V (hb : Below V19.heap.size V19 V) => ref_tx B cc n19 R9 la bF lk dF V (HES9.out.cl.below hb) HLK.out (by have := HLQ.out.n; omega) HLQ.out.cw HLQ.out.w HLQ.out.z hnw (sl_below HSR9.out hb) HSR.out.2.1 HSR.out.2.2)
       have hxn := (HLQ.out.tx hnw HSR.out.2.2).n
       rw [hX] at CT CR hxn
       have HXN := Lib.hid hxn
       clear CPL hvl hbW hb01 hxR hgR hly hX hxn HES
       go_upto_region 20 with fail
       refine wl <| gzl rfl ⟨g3, 0, none⟩ (.agg (lgA la B.length lk cc)) (load_lg HES9.out.x3) <| gz2 (.int .u64 n19) (.slice bF R9.length dF) <|
        gze (fun v w' => ∃ ad k, v = .tuple #[.agg (lgA ad X.1.1.length k X.1.2), .agg (resA X.2)] ∧ Cs w' ad (acc X.1.1) ∧ X.1.1.length ≤ k ∧ ((ad = la ∧ X.1.1 = B) ∨ ∀ x, ad = some x → V19.heap.size ≤ x.block) ∧ Below V19.heap.size V19 w') (CT.mono fun e w' q => by obtain ⟨ad, k, h1, h2⟩ := q; exact ⟨_, h1, ad, k, rfl, h2⟩) (fun vv U4 hq => ?_)
       obtain ⟨ad, k, rfl, hct, hkt, hbl, hbt⟩ := hq
       obtain ⟨Va, Vb, Vc, hVa, hlt, hs6, hs7, hb7, hx4, hx5⟩ := new_lr U4 ad X.1.1.length k X.1.2 X.2
       simp only [pu]
       refine gz3 (.tuple #[.agg (lgA ad X.1.1.length k X.1.2), .agg (resA X.2)]) (.agg (lgA ad X.1.1.length k X.1.2)) (.agg (resA X.2)) ?_
       simp only [pu]
       refine run_to rfl (some 27) rfl (.pointer (some ⟨U4.heap.size, 0, none⟩)) (U4.alloc (.cells (lgA none 0 0 0) 25)) (by kernel_rfl) ?_
       simp only [pu]
       rw [hVa]
       refine run_to rfl (some 28) rfl (.pointer (some ⟨Va.heap.size, 0, none⟩)) (Va.alloc (.cells (resA (zRes 0)) 39)) (by kernel_rfl) ?_
       simp only [pu]
       refine gzs rfl (hs6) <| gzs rfl (hs7) <| wn ?_
       obtain ⟨g27, hga⟩ : ∃ g, U4.heap.size = g := ⟨_, rfl⟩
       obtain ⟨g28, hgb⟩ : ∃ g, Va.heap.size = g := ⟨_, rfl⟩
       have hbA := hbt.trans (hb7.mono hbt.size)
       have hgV : V19.heap.size ≤ g27 := by rw [← hga]; exact hbt.size
       have hgl : g27 < g28 := by rw [← hga, ← hgb]; exact hlt
       rw [hga] at hx4 ⊢
       rw [hgb] at hx5 ⊢
       have hcA := hct.below hb7
       have hltA : acc X.1.1 ≠ [] → ∀ x, ad = some x → x.block < g27 := fun hn x hx => by rw [← hga]; exact cs_old hct hn x hx
       clear hVa hlt hs6 hs7 hct hbt hga hgb hb7
       have HX27 := Lib.hid hx4
       have HX28 := Lib.hid hx5
       have HC27 := Lib.hid hcA
       have CRV := CR.out Vc hbA
       have HESA := Lib.hid (HES9.out.below hbA)
       generalize Vc = Ud at *
       clear CT hgV hgl hx4 hx5 hbA hcA hltA hkt hbl CR HES9 HSR9
       go_upto_region 21 with fail
       refine wl <| gzl rfl ⟨g3, 0, none⟩ (.agg (lgA la B.length lk cc)) (load_lg HESA.out.x3) <| gz2 (.int .u64 n19) (.slice bF R9.length dF) <|
        gze (fun v w' => ∃ ad k, v = .tuple #[.agg (lgA ad X.1.1.length k X.1.2), .agg (resA X.2)] ∧ Cs w' ad (acc X.1.1) ∧ X.1.1.length ≤ k ∧ ((ad = la ∧ X.1.1 = B) ∨ ∀ x, ad = some x → Ud.heap.size ≤ x.block) ∧ Below Ud.heap.size Ud w') (CRV.mono fun e w' q => by obtain ⟨ad, k, h1, h2⟩ := q; exact ⟨_, h1, ad, k, rfl, h2⟩) (fun vv U5 hq => ?_)
       obtain ⟨ad2, k2, rfl, hct, hkt, hbl, hbt⟩ := hq
       obtain ⟨Va, Vb, Vc, hVa, hlt, hs6, hs7, hb7, hx4, hx5⟩ := new_lr U5 ad2 X.1.1.length k2 X.1.2 X.2
       simp only [pu]
       refine gz3 (.tuple #[.agg (lgA ad2 X.1.1.length k2 X.1.2), .agg (resA X.2)]) (.agg (lgA ad2 X.1.1.length k2 X.1.2)) (.agg (resA X.2)) ?_
       simp only [pu]
       refine run_to rfl (some 29) rfl (.pointer (some ⟨U5.heap.size, 0, none⟩)) (U5.alloc (.cells (lgA none 0 0 0) 25)) (by kernel_rfl) ?_
       simp only [pu]
       rw [hVa]
       refine run_to rfl (some 30) rfl (.pointer (some ⟨Va.heap.size, 0, none⟩)) (Va.alloc (.cells (resA (zRes 0)) 39)) (by kernel_rfl) ?_
       simp only [pu]
       refine gzs rfl (hs6) <| gzs rfl (hs7) <| wn ?_
       obtain ⟨g29, hga⟩ : ∃ g, U5.heap.size = g := ⟨_, rfl⟩
       obtain ⟨g30, hgb⟩ : ∃ g, Va.heap.size = g := ⟨_, rfl⟩
       have hbA := hbt.trans (hb7.mono hbt.size)
       have hgV : Ud.heap.size ≤ g29 := by rw [← hga]; exact hbt.size
       have hgl : g29 < g30 := by rw [← hga, ← hgb]; exact hlt
       rw [hga] at hx4 ⊢
       rw [hgb] at hx5 ⊢
       have hcA := hct.below hb7
       have hltA : acc X.1.1 ≠ [] → ∀ x, ad2 = some x → x.block < g29 := fun hn x hx => by rw [← hga]; exact cs_old hct hn x hx
       clear hVa hlt hs6 hs7 hct hbt hga hgb hb7
       have HX29 := Lib.hid hx4
       have HX30 := Lib.hid hx5
       have hX28 := HX28.out.below HX28.out.lt hbA
       have hX27 := HX27.out.below HX27.out.lt hbA
       have CSL := ref_sameled X.1.1 X.1.2 ad ad2 k k2 Vc (HC27.out.below hbA) hcA (by have := HXN.out; omega)
       have HBB := Lib.hid (HESA.out.bel.trans (hbA.mono HESA.out.bel.size))
       clear hgV hgl hx4 hx5 hbA hcA hltA hkt hbl CRV HX27 HX28 HC27 HESA
       go_upto_region 22 with fail
       refine wl <| gzl rfl ⟨g28, 0, none⟩ (.agg (resA X.2)) (load_res hX28) <| gzl rfl ⟨g30, 0, none⟩ (.agg (resA X.2)) (load_res HX30.out) <| gzw (.bool true) (eql_res rfl X.2) <| gz1 (.bool true) <|
        gzl rfl ⟨g27, 0, none⟩ (.agg (lgA ad X.1.1.length k X.1.2)) (load_lg hX27) <| gzl rfl ⟨g29, 0, none⟩ (.agg (lgA ad2 X.1.1.length k2 X.1.2)) (load_lg HX29.out) <| gzc (.bool true) (fun w' => Below Vc.heap.size Vc w') CSL (fun V8z hV8z => ?_)
       simp only [pu]
       refine gz2 (.bool true) (.bool true) <| gzc (.bool true) (fun w' => Below w.heap.size w w') (HK.out V8z (HBB.out.trans (hV8z.mono HBB.out.size))) (fun V9z hV9z => ?_)
       simp only [pu]
       refine gz2 (.bool true) (.bool true) <| wn ?_
       simp only [pu]
       have HE := Lib.hid hV9z
       clear hV9z
       go_wp2_with fail
       go_ret
       exact ⟨rfl, HE.out⟩
end Go.Proofs.YtglglhcnofbagaaGreat.Lg
namespace Go.Proofs.YtglglhcnofbagaaGreat.Lg.applyErrors
set_option maxRecDepth 100000
open Go.ChangeShapes Go.WideShapes Go.ChangeAt Go.RowKit
set_option linter.unusedVariables false

theorem own : ownKnob Tryz.prog.godebug = none := by kernel_rfl
theorem size_list (x : ByteArray) : x.data.toList.length = x.size := Array.length_toList
theorem laidOut : laidOutB Tryz.prog = true := by kernel_rfl

theorem walk (a0 : Option Addr) (c0 : Nat) (L0 : List Int) (x1 : Int) (x2 : Int) (x3 : Int) (x4 : Int) (x5 : Int) (w : World) (l0 : L0.length ≤ 9223372036854775807) (r0 : Cs w a0 (icells L0)) (w1 : (Lit.int .i64 x1).wf = true) (w2 : (Lit.int .i64 x2).wf = true) (w3 : (Lit.int .i64 x3).wf = true) (w4 : (Lit.int .i64 x4).wf = true) (w5 : (Lit.int .i64 x5).wf = true) :
    Calls Tryz.prog 4 #[.slice a0 L0.length c0, .int .i64 x1, .int .i64 x2, .int .i64 x3, .int .i64 x4, .int .i64 x5] w fun e w' => e = .returned (.bool true) ∧ Below w.heap.size w w' := by
  exact errors_core a0 c0 L0 x1 x2 x3 x4 x5 w l0 r0

set_option maxRecDepth 100000 in
set_option maxHeartbeats 1000000 in
theorem contract (H : Type) (enc : TypeId × Value → H) (W : World) (base : Nat) (args : Array Value) (ds gs : List (DataW H)) (before : List MemPlace)
    (hval0 : ∀ (j : Nat) t v, Tryz.f4.params[j]? = some t → args[j]? = some v → Value.okWide Tryz.prog W .any base t v)
    (hW : DataW.Whole enc Tryz.prog Tryz.f4.params.toList Rows.applyErrorsSpec.vars false W args.toList ds gs before)
    (hz : (DataW.weightsEach Tryz.prog (Tryz.f4.params.toList ++ Rows.applyErrorsSpec.plain.varTypes Tryz.prog) (ds ++ gs)).all (· ≤ reachBytes) = true) :
    Calls Tryz.prog 4 args W fun e W' => ∃ v, e = .returned v ∧ Rows.applyErrorsSpec.post enc Tryz.prog Tryz.f4 false true false false W args v W' := by
  have hval := hval0
  have hW' := hW
  obtain ⟨p, q, hA0, hV, rfl, hfz, hnd⟩ := hW
  have hA := hA0
  rw [Tryz.params4] at hA hval
  obtain ⟨v0, vs0, d0, ds0, p0, q0, hargs, rfl, rfl, h0, rr0⟩ := trodAll_cons hA
  obtain ⟨v1, vs1, d1, ds1, p1, q1, rfl, rfl, rfl, h1, rr1⟩ := trodAll_cons rr0
  obtain ⟨v2, vs2, d2, ds2, p2, q2, rfl, rfl, rfl, h2, rr2⟩ := trodAll_cons rr1
  obtain ⟨v3, vs3, d3, ds3, p3, q3, rfl, rfl, rfl, h3, rr3⟩ := trodAll_cons rr2
  obtain ⟨v4, vs4, d4, ds4, p4, q4, rfl, rfl, rfl, h4, rr4⟩ := trodAll_cons rr3
  obtain ⟨v5, vs5, d5, ds5, p5, q5, rfl, rfl, rfl, h5, rr5⟩ := trodAll_cons rr4
  obtain ⟨rfl, rfl, rfl⟩ := trodAll_nil rr5
  obtain rfl : args = #[v0, v1, v2, v3, v4, v5] := by cases args; simp_all
  obtain ⟨rfl, rfl⟩ := trodVars_none hV
  have k0 := h0
  have lt0 : ∀ x ∈ p0, x.block < W.heap.size := by obtain ⟨m, hm⟩ := k0; exact DataW.trod_lt m _ _ _ hm
  obtain ⟨a0, _, c0, rfl⟩ := okWide_slice Tryz.underlying27 (hval 0 27 v0 rfl rfl)
  obtain ⟨_, hf0⟩ := h0
  obtain ⟨_, _, L0, e0, l0, r0⟩ := ints_arg hf0
  simp only [Value.cells, List.cons.injEq, Value.slice.injEq, and_true] at e0
  obtain ⟨rfl, rfl, rfl⟩ := e0
  obtain ⟨x1, rfl, rfl, rfl, w1⟩ := open_int Tryz.underlying3 (hval 1 3 v1 rfl rfl) h1
  obtain ⟨x2, rfl, rfl, rfl, w2⟩ := open_int Tryz.underlying3 (hval 2 3 v2 rfl rfl) h2
  obtain ⟨x3, rfl, rfl, rfl, w3⟩ := open_int Tryz.underlying3 (hval 3 3 v3 rfl rfl) h3
  obtain ⟨x4, rfl, rfl, rfl, w4⟩ := open_int Tryz.underlying3 (hval 4 3 v4 rfl rfl) h4
  obtain ⟨x5, rfl, rfl, rfl, w5⟩ := open_int Tryz.underlying3 (hval 5 3 v5 rfl rfl) h5
  clear hA0 hval0
  refine (walk a0 c0 L0 x1 x2 x3 x4 x5 W l0 r0 w1 w2 w3 w4 w5).mono fun e W' ⟨he, bel⟩ => ?_
  subst he
  exact ⟨_, rfl, _, _, _, [], _, [], hW', trodAll_mk1 (shut_bool Tryz.underlying4 _), (trodAll_cons_mk (Below.trod laidOut (by kernel_rfl) (of_decide_eq_true (by kernel_rfl)) k0 bel lt0) (trodAll_cons_mk (shut_int Tryz.underlying3 w1) (trodAll_cons_mk (shut_int Tryz.underlying3 w2) (trodAll_cons_mk (shut_int Tryz.underlying3 w3) (trodAll_cons_mk (shut_int Tryz.underlying3 w4) (trodAll_cons_mk (shut_int Tryz.underlying3 w5) trodAll_mk0)))))), rfl, bel.frame _, fun h => by cases h⟩

set_option maxRecDepth 100000 in
theorem lifted (os : Os) (started : os.Started) (H : Type) (enc : TypeId × Value → H) :
    ReturnsInHanded {} Tryz.checked os 4 .any (Rows.applyErrorsSpec.pre6 enc Tryz.prog Tryz.f4 Rows.applyErrorsRow.domain false) (Rows.applyErrorsSpec.post enc Tryz.prog Tryz.f4 false true false false) := by
  refine returnsInHanded_of_change_sized (C := Tryz.checked) own started (by kernel_rfl) Tryz.func4
    (ChangeSpec.witness6 (enc := enc) (C := Tryz.checked) false ⟨#[], #[.slice none 0 0, .int .i64 0, .int .i64 0, .int .i64 0, .int .i64 0, .int .i64 0], []⟩ 8 (by kernel_rfl) (by kernel_rfl) (by kernel_rfl) (by kernel_rfl)) ?_
  intro W base args ds gs before hval hW _ hz _
  exact contract H enc W base args ds gs before hval hW hz

/-- THE STATEMENT -/
theorem proved : Rows.ApplyErrorsSaid :=
  OpenClaim.holds_of_wide 4 Tryz.f4 rfl rfl rfl rfl rfl rfl rfl ⟨rfl, rfl, rfl, rfl, rfl⟩ rfl rfl rfl rfl rfl (by kernel_rfl) Tryz.func4 (by kernel_rfl)
    (of_decide_eq_true (by kernel_rfl)) (by unfold Func.isWrapper; first | (rw [if_pos (by decide +kernel)]; kernel_rfl) | (rw [if_neg (by decide +kernel)]; exact ⟨rfl, rfl⟩))
    (fun os started H enc _ => lifted os started H enc)
#print axioms proved
end Go.Proofs.YtglglhcnofbagaaGreat.Lg.applyErrors
