/-
  What the program's functions are held to; the fixed example of stage 6 returns true, where they keep it.
-/
import Derived.Test.YtbhnbcpllhefgaaDoorMP
import Derived.Lib.SmallJoins
namespace Go.Proofs.YtbhnbcpllhefgaaDoor
open Go.RowKit
set_option linter.unusedSimpArgs false

/-- What Proof returns: the path, and whether there is one. -/
def prL (ls : List (List Int)) (i : Int) : List (List Int) × Bool := if 0 ≤ i ∧ i < (ls.length : Int) then (pathL ls i.toNat, true) else ([], false)
theorem prL_in (ls : List (List Int)) (i : Nat) (h : i < ls.length) : prL ls i = (pathL ls i, true) := by
  unfold prL
  rw [if_pos (by omega), Int.toNat_natCast]
theorem prL_out (ls : List (List Int)) (i : Int) (h : i < 0 ∨ (ls.length : Int) ≤ i) : prL ls i = ([], false) := by
  unfold prL
  rw [if_neg (by omega)]
/-- A result of two: a row of keys and a truth. -/
def PrO (w : World) (x : List (List Int) × Bool) (e : Ending) (w' : World) : Prop := ∃ a c, e = .returned (.tuple #[.slice a x.1.length c, .bool x.2]) ∧ Rk w' a x.1 ∧ x.1.length ≤ c ∧ Below w.heap.size w w'
def RootC (f : FuncId) : Prop := ∀ (ls : List (List Int)) (al : Option Addr) (c : Nat) (w : World), Glob w → ls.length ≤ 1000 → ls.length ≤ c → RB w al ls → Calls Tryd.prog f #[.slice al ls.length c] w fun e w' => e = .returned (.agg (w8s (rootL ls))) ∧ Below w.heap.size w w'
def LeafC (f : FuncId) : Prop := ∀ (B : List Int) (a : Option Addr) (c : Nat) (w : World), Glob w → Sl w a c B → B.length ≤ c → (∀ x, x ∈ B → W8 x) → B.length ≤ 300000 → Calls Tryd.prog f #[.slice a B.length c] w fun e w' => e = .returned (.agg (w8s (leafL B))) ∧ Below w.heap.size w w'
def InnerC (f : FuncId) : Prop := ∀ (A B : List Int) (w : World), Glob w → A.length = 32 → B.length = 32 → (∀ x, x ∈ A → W8 x) → (∀ x, x ∈ B → W8 x) → Calls Tryd.prog f #[.agg (w8s A), .agg (w8s B)] w fun e w' => e = .returned (.agg (w8s (innerL A B))) ∧ Below w.heap.size w w'
def ProofC (f : FuncId) : Prop := ∀ (ls : List (List Int)) (al : Option Addr) (c : Nat) (i : Int) (w : World), Glob w → ls.length ≤ 1000 → ls.length ≤ c → RB w al ls → -9223372036854775808 ≤ i → i ≤ 9223372036854775807 → Calls Tryd.prog f #[.slice al ls.length c, .int .i64 i] w (PrO w (prL ls i))
def VerC (f : FuncId) : Prop := ∀ (R B : List Int) (la : Option Addr) (lc : Nat) (i n : Int) (al : Option Addr) (c : Nat) (p : List (List Int)) (w : World), Glob w → R.length = 32 → (∀ x, x ∈ R → W8 x) → Sl w la lc B → B.length ≤ lc → (∀ x, x ∈ B → W8 x) → B.length ≤ 300000 → -9223372036854775808 ≤ i → i ≤ 9223372036854775807 → -9223372036854775808 ≤ n → n ≤ 1000000 → (∀ k ∈ p, ∀ x, x ∈ k → W8 x) → p.length ≤ 1000 → p.length ≤ c → Rk w al p →
  Calls Tryd.prog f #[.agg (w8s R), .slice la B.length lc, .int .i64 i, .int .i64 n, .slice al p.length c] w fun e w' => e = .returned (.bool (verL R B i n p)) ∧ Below w.heap.size w w'

theorem leaf_32 (B : List Int) : (leafL B).length = 32 := shaL_len _
theorem leaf_8 (B : List Int) : ∀ x, x ∈ leafL B → W8 x := shaL_byte _
theorem inner_32 (A B : List Int) : (innerL A B).length = 32 := shaL_len _
theorem inner_8 (A B : List Int) : ∀ x, x ∈ innerL A B → W8 x := shaL_byte _
theorem build_row3 (a b c : Option Addr) (w : World) : (Instr.buildSlice 22 3 #[(0, .slice a 1 1), (1, .slice b 1 1), (2, .slice c 1 1)]).run Tryd.prog w = .ok (.slice (some ⟨w.heap.size, 0, none⟩) 3 3) (w.alloc (.cells #[.slice a 1 1, .slice b 1 1, .slice c 1 1] 25)) := by
  obtain ⟨i0, hi, hz0, hz1, hz2⟩ := info_parts info22
  refine run_buildSlice w 22 25 3 _ #[.slice a 1 1, .slice b 1 1, .slice c 1 1] i0 _ (by kernel_rfl) hi hz0 (by rw [hz1]; omega) (by rw [hz1]; omega) ?_
  rw [hz1]
  kernel_rfl
theorem sl_onem (w : World) (x : Int) (t : Nat) (fr : Nat × Nat) : Sl (w.alloc (.cells #[.int .u8 x] t fr)) (some ⟨w.heap.size, 0, none⟩) 1 [x] := by
  refine .inr ⟨_, rfl, fun k hk => ⟨_, _, rfl, ?_⟩⟩
  have : k = 0 := by simpa using hk
  subst this
  rw [cell_of_row _ w.heap.size (0 + 0) _ t fr (heap_alloc_new w _)]
  rfl
/-- What the example knows of its world. -/
def KS (w : World) (a1 a2 a3 al : Option Addr) (V : World) : Prop := Glob V ∧ Sl V a1 1 [97] ∧ Sl V a2 1 [98] ∧ Sl V a3 1 [99] ∧ RB V al [[97], [98], [99]] ∧ Below w.heap.size w V
theorem KS.below {w V V' : World} {a1 a2 a3 al : Option Addr} (h : KS w a1 a2 a3 al V) (hb : Below V.heap.size V V') : KS w a1 a2 a3 al V' :=
  ⟨h.1.below h.1.size hb, sl_below h.2.1 hb, sl_below h.2.2.1 hb, sl_below h.2.2.2.1 hb, h.2.2.2.2.1.below hb, h.2.2.2.2.2.trans (hb.mono h.2.2.2.2.2.size)⟩
/-- And the path. -/
def KT (w : World) (a1 a2 a3 al ap : Option Addr) (P : List (List Int)) (V : World) : Prop := KS w a1 a2 a3 al V ∧ Rk V ap P
theorem KT.below {w V V' : World} {a1 a2 a3 al ap : Option Addr} {P : List (List Int)} (h : KT w a1 a2 a3 al ap P V) (hb : Below V.heap.size V V') : KT w a1 a2 a3 al ap P V' := ⟨h.1.below hb, h.2.below hb⟩
theorem half_3 : halfN 3 = 2 := by decide
theorem half_2 : halfN 2 = 1 := by decide
theorem root_byte8 (ls : List (List Int)) : ∀ x, x ∈ rootL ls → W8 x := (root_byte ls).2

set_option maxRecDepth 100000 in
set_option maxHeartbeats 4000000 in
theorem known_true (cR : RootC 10) (cI : InnerC 12) (cL : LeafC 14) (cP : ProofC 16) (cV : VerC 19) (w : World) (hG : Glob w) : Calls Tryd.prog 8 #[] w fun e w' => e = .returned (.bool true) ∧ Below w.heap.size w w' := by
  have h2 : rootL [[97], [98]] = innerL (leafL [97]) (leafL [98]) := by
    rw [rootL_two _ (by simp), rootL_one _ (by simp [half_2]), rootL_one _ (by simp [half_2])]
    simp [half_2]
  have h3 : rootL [[97], [98], [99]] = innerL (innerL (leafL [97]) (leafL [98])) (leafL [99]) := by
    rw [rootL_two _ (by simp)]
    simp only [List.length_cons, List.length_nil, Nat.reduceAdd, half_3, List.take_succ_cons, List.take_zero, List.drop_succ_cons, List.drop_zero]
    rw [h2, rootL_one [[99]] rfl]
    rfl
  have hp : pathL [[97], [98], [99]] 2 = [rootL [[97], [98]]] := by
    rw [pathL_right _ _ (by simp) (by simp [half_3])]
    simp only [List.length_cons, List.length_nil, Nat.reduceAdd, half_3, List.take_succ_cons, List.take_zero, List.drop_succ_cons, List.drop_zero]
    rw [pathL_one _ _ (by simp)]
    rfl
  have hpr : prL [[97], [98], [99]] 2 = (pathL [[97], [98], [99]] 2, true) := prL_in _ 2 (by simp)
  have hv1 : verL (rootL [[97], [98], [99]]) [99] 2 3 (pathL [[97], [98], [99]] 2) = true := ver_path [[97], [98], [99]] 2 (by simp)
  have hv2 : verL (rootL [[97], [98], [99]]) [99] 3 3 (pathL [[97], [98], [99]] 2) = false := verL_out _ _ _ _ _ (.inr (by omega))
  have hP8 : ∀ k ∈ pathL [[97], [98], [99]] 2, ∀ x, x ∈ k → W8 x := fun k hk => (path_byte _ _ _ (Nat.le_refl _) k hk).2
  obtain ⟨a1, ha1⟩ : ∃ a, a = (some ⟨w.heap.size, 0, none⟩ : Option Addr) := ⟨_, rfl⟩
  obtain ⟨a2, ha2⟩ : ∃ a, a = (some ⟨w.heap.size + 1, 0, none⟩ : Option Addr) := ⟨_, rfl⟩
  obtain ⟨a3, ha3⟩ : ∃ a, a = (some ⟨w.heap.size + 2, 0, none⟩ : Option Addr) := ⟨_, rfl⟩
  obtain ⟨al, hal⟩ : ∃ a, a = (some ⟨w.heap.size + 3, 0, none⟩ : Option Addr) := ⟨_, rfl⟩
  have C1 := fun V (h : KS w a1 a2 a3 al V) => cP [[97], [98], [99]] al 3 2 V h.1 (by simp) (by simp) h.2.2.2.2.1 (by omega) (by omega)
  rw [hpr] at C1
  have C2 := fun V (h : KS w a1 a2 a3 al V) => cR [[97], [98], [99]] al 3 V h.1 (by simp) (by simp) h.2.2.2.2.1
  have CA := fun V (h : KS w a1 a2 a3 al V) => cL [97] a1 1 V h.1 h.2.1 (by simp) (fun x hx => by rw [List.mem_singleton.1 hx]; unfold W8; omega) (by simp)
  have CB := fun V (h : KS w a1 a2 a3 al V) => cL [98] a2 1 V h.1 h.2.2.1 (by simp) (fun x hx => by rw [List.mem_singleton.1 hx]; unfold W8; omega) (by simp)
  have CC := fun V (h : KS w a1 a2 a3 al V) => cL [99] a3 1 V h.1 h.2.2.2.1 (by simp) (fun x hx => by rw [List.mem_singleton.1 hx]; unfold W8; omega) (by simp)
  have CI := fun V (h : KS w a1 a2 a3 al V) => cI (leafL [97]) (leafL [98]) V h.1 (leaf_32 _) (leaf_32 _) (leaf_8 _) (leaf_8 _)
  have CJ := fun V (h : KS w a1 a2 a3 al V) => cI (innerL (leafL [97]) (leafL [98])) (leafL [99]) V h.1 (inner_32 _ _) (leaf_32 _) (inner_8 _ _) (leaf_8 _)
  rw [← h3] at CJ
  have CV := fun V ap c (h : KT w a1 a2 a3 al ap (pathL [[97], [98], [99]] 2) V) (hc : (pathL [[97], [98], [99]] 2).length ≤ c) => cV (rootL [[97], [98], [99]]) [99] a3 1 2 3 ap c (pathL [[97], [98], [99]] 2) V h.1.1 (root_byte _).1 (root_byte _).2 h.1.2.2.2.1 (by simp) (fun x hx => by rw [List.mem_singleton.1 hx]; unfold W8; omega) (by simp) (by omega) (by omega) (by omega) (by omega) hP8 (by rw [hp]; simp) hc h.2
  have CU := fun V ap c (h : KT w a1 a2 a3 al ap (pathL [[97], [98], [99]] 2) V) (hc : (pathL [[97], [98], [99]] 2).length ≤ c) => cV (rootL [[97], [98], [99]]) [99] a3 1 3 3 ap c (pathL [[97], [98], [99]] 2) V h.1.1 (root_byte _).1 (root_byte _).2 h.1.2.2.2.1 (by simp) (fun x hx => by rw [List.mem_singleton.1 hx]; unfold W8; omega) (by simp) (by omega) (by omega) (by omega) (by omega) hP8 (by rw [hp]; simp) hc h.2
  rw [hv1] at CV
  rw [hv2] at CU
  have CE := fun V (h : KS w a1 a2 a3 al V) => cR [] none 0 V h.1 (by simp) (by simp) (fun i hi => by simp at hi)
  rw [rootL_nil [] rfl] at CE
  have CS := fun V (h : KS w a1 a2 a3 al V) => ref_sha none 0 [] V (.inl ⟨rfl, rfl, rfl⟩) (by simp) (by simp)
  have hR32 := (root_byte [[97], [98], [99]]).1
  have hE32 := shaL_len []
  have hpl : (pathL [[97], [98], [99]] 2).length = 1 := by rw [hp]; rfl
  generalize rootL [[97], [98], [99]] = R at *
  generalize innerL (leafL [97]) (leafL [98]) = I at *
  generalize leafL [97] = LA at *
  generalize leafL [98] = LB at *
  generalize leafL [99] = LC at *
  generalize shaL [] = E at *
  generalize pathL [[97], [98], [99]] 2 = P at *
  rw [hpl] at CV CU
  unfold PrO at C1
  rw [show (P, true).1.length = 1 from hpl] at C1
  have HR32 := Lib.hid hR32
  have HE32 := Lib.hid hE32
  have HG := Lib.hid hG
  clear h2 h3 hp hpr hv1 hv2 hP8 hR32 hE32 hpl cR cI cL cP cV hG
  have hK0 : ∀ V, V = (((w.alloc (.cells #[.int .u8 97] 5 (1, 2))).alloc (.cells #[.int .u8 98] 5 (1, 2))).alloc (.cells #[.int .u8 99] 5 (1, 2))).alloc (.cells #[.slice a1 1 1, .slice a2 1 1, .slice a3 1 1] 25) → KS w a1 a2 a3 al V := by
    rintro V rfl
    have b1 := (Below.refl _ w).alloc (Nat.le_refl _) (.cells #[.int .u8 97] 5 (1, 2))
    have s1 : (w.alloc (.cells #[.int .u8 97] 5 (1, 2))).heap.size = w.heap.size + 1 := by simp
    have e1 : Sl (w.alloc (.cells #[.int .u8 97] 5 (1, 2))) a1 1 [97] := by rw [ha1]; exact sl_onem _ _ _ _
    generalize w.alloc (.cells #[.int .u8 97] 5 (1, 2)) = W1 at *
    have b2 := (Below.refl _ W1).alloc (Nat.le_refl _) (.cells #[.int .u8 98] 5 (1, 2))
    have s2 : (W1.alloc (.cells #[.int .u8 98] 5 (1, 2))).heap.size = w.heap.size + 2 := by simp [s1]
    have e2 : Sl (W1.alloc (.cells #[.int .u8 98] 5 (1, 2))) a2 1 [98] := by rw [ha2, ← s1]; exact sl_onem _ _ _ _
    generalize W1.alloc (.cells #[.int .u8 98] 5 (1, 2)) = W2 at *
    have b3 := (Below.refl _ W2).alloc (Nat.le_refl _) (.cells #[.int .u8 99] 5 (1, 2))
    have s3 : (W2.alloc (.cells #[.int .u8 99] 5 (1, 2))).heap.size = w.heap.size + 3 := by simp [s2]
    have e3 : Sl (W2.alloc (.cells #[.int .u8 99] 5 (1, 2))) a3 1 [99] := by rw [ha3, ← s2]; exact sl_onem _ _ _ _
    generalize W2.alloc (.cells #[.int .u8 99] 5 (1, 2)) = W3 at *
    have b4 := (Below.refl _ W3).alloc (Nat.le_refl _) (.cells #[.slice a1 1 1, .slice a2 1 1, .slice a3 1 1] 25)
    have s4 : (W3.alloc (.cells #[.slice a1 1 1, .slice a2 1 1, .slice a3 1 1] 25)).heap.size = w.heap.size + 4 := by simp [s3]
    have hl := heap_alloc_last W3 (.cells #[.slice a1 1 1, .slice a2 1 1, .slice a3 1 1] 25)
    rw [s3] at hl
    generalize W3.alloc (.cells #[.slice a1 1 1, .slice a2 1 1, .slice a3 1 1] 25) = W4 at *
    have b24 := b3.trans (b4.mono b3.size)
    have b14 := b2.trans (b24.mono b2.size)
    have b04 := b1.trans (b14.mono b1.size)
    have q1 := sl_below e1 b14
    have q2 := sl_below e2 b24
    have q3 := sl_below e3 b4
    refine ⟨HG.out.below HG.out.size b04, q1, q2, q3, fun i hi => ?_, b04⟩
    have hi3 : i = 0 ∨ i = 1 ∨ i = 2 := by simp at hi; omega
    have hc : ∀ j, W4.cell? ⟨w.heap.size + 3, j, none⟩ = #[Value.slice a1 1 1, .slice a2 1 1, .slice a3 1 1][j]? := fun j => cell_of_row _ _ j _ 25 (0, 0) hl
    have h8 : ∀ z : Int, 0 ≤ z → z < 256 → ∀ x, x ∈ [z] → W8 x := fun z h0 h1 x hx => by rw [List.mem_singleton.1 hx]; exact ⟨h0, by omega⟩
    rcases hi3 with rfl | rfl | rfl
    · exact ⟨w.heap.size + 3, 0, a1, 1, hal, by omega, hc 0, q1, Nat.le_refl _, h8 97 (by omega) (by omega), by simp⟩
    · exact ⟨w.heap.size + 3, 0, a2, 1, hal, by omega, hc 1, q2, Nat.le_refl _, h8 98 (by omega) (by omega), by simp⟩
    · exact ⟨w.heap.size + 3, 0, a3, 1, hal, by omega, hc 2, q3, Nat.le_refl _, h8 99 (by omega) (by omega), by simp⟩
  have hbs := build_row3 a1 a2 a3 (((w.alloc (.cells #[.int .u8 97] 5 (1, 2))).alloc (.cells #[.int .u8 98] 5 (1, 2))).alloc (.cells #[.int .u8 99] 5 (1, 2)))
  have k1 := Joins.run_convert_bytes_const_at (P := Tryd.prog) w 25 5 #[.int .u8 97] 1 1 w.heap.size rfl Tryd.underlying25 Tryd.underlying5
  have k2 := Joins.run_convert_bytes_const_at (P := Tryd.prog) (w.alloc (.cells #[.int .u8 97] 5 (1, 2))) 25 5 #[.int .u8 98] 1 1 (w.heap.size + 1) (by simp) Tryd.underlying25 Tryd.underlying5
  have k3 := Joins.run_convert_bytes_const_at (P := Tryd.prog) ((w.alloc (.cells #[.int .u8 97] 5 (1, 2))).alloc (.cells #[.int .u8 98] 5 (1, 2))) 25 5 #[.int .u8 99] 1 1 (w.heap.size + 2) (by simp) Tryd.underlying25 Tryd.underlying5
  go_enter Tryd.func8, Tryd.ntmps8
  go_upto_region 2 with fail
  rw [← ha1, ← ha2, ← ha3]
  apply wp_region_lit
  refine gw_val (by kernel_rfl) (some 13) rfl (.slice a1 1 1) (by kernel_rfl) ?_
  simp only [Act.put, List.setIfInBounds_toArray, List.set_cons_succ, List.set_cons_zero]
  refine gw_val (by kernel_rfl) (some 14) rfl (.slice a2 1 1) (by kernel_rfl) ?_
  simp only [Act.put, List.setIfInBounds_toArray, List.set_cons_succ, List.set_cons_zero]
  refine gw_val (by kernel_rfl) (some 15) rfl (.slice a3 1 1) (by kernel_rfl) ?_
  simp only [Act.put, List.setIfInBounds_toArray, List.set_cons_succ, List.set_cons_zero]
  refine gw_build (by kernel_rfl) (some 16) rfl 22 3 #[(0, .tmp 13), (1, .tmp 14), (2, .tmp 15)] rfl #[(0, .slice a1 1 1), (1, .slice a2 1 1), (2, .slice a3 1 1)] (by kernel_rfl) _ _ hbs ?_
  rw [show (((w.alloc (.cells #[.int .u8 97] 5 (1, 2))).alloc (.cells #[.int .u8 98] 5 (1, 2))).alloc (.cells #[.int .u8 99] 5 (1, 2))).heap.size = w.heap.size + 3 by simp, ← hal]
  simp only [Act.put, List.setIfInBounds_toArray, List.set_cons_succ, List.set_cons_zero]
  obtain ⟨V0, hV0⟩ : ∃ V, V = (((w.alloc (.cells #[.int .u8 97] 5 (1, 2))).alloc (.cells #[.int .u8 98] 5 (1, 2))).alloc (.cells #[.int .u8 99] 5 (1, 2))).alloc (.cells #[.slice a1 1 1, .slice a2 1 1, .slice a3 1 1] 25) := ⟨_, rfl⟩
  have hK0 := hK0 V0 hV0
  rw [← hV0]
  clear hV0 hbs ha1 ha2 ha3 hal HG
  refine gw_val (by kernel_rfl) (some 4) rfl (.slice al 3 3) (by kernel_rfl) ?_
  simp only [Act.put, List.setIfInBounds_toArray, List.set_cons_succ, List.set_cons_zero]
  apply wpList_nil
  go_upto_region 3 with fail
  apply wp_region_lit
  refine gw_val (by kernel_rfl) (some 18) rfl (.slice al 3 3) (by kernel_rfl) ?_
  simp only [Act.put, List.setIfInBounds_toArray, List.set_cons_succ, List.set_cons_zero]
  refine gw_callE (by kernel_rfl) (some 19) rfl 16 #[.slice al 3 3, .int .i64 2] (fun v w' => ∃ a c, v = .tuple #[.slice a 1 c, .bool true] ∧ Rk w' a P ∧ 1 ≤ c ∧ Below V0.heap.size V0 w') (by kernel_rfl) ((C1 V0 hK0).mono fun e w' h => ?_) (fun v V1 hq => ?_)
  · obtain ⟨a, c, he, h⟩ := h
    exact ⟨_, he, a, c, rfl, h⟩
  obtain ⟨ap, c, rfl, hp1, hc, hb1⟩ := hq
  have hK1 : KT w a1 a2 a3 al ap P V1 := ⟨hK0.below hb1, hp1⟩
  clear hK0 hb1 hp1 C1
  simp only [Act.put, List.setIfInBounds_toArray, List.set_cons_succ, List.set_cons_zero]
  refine gw_val (by kernel_rfl) (some 17) rfl (.tuple #[.slice ap 1 c, .bool true]) (by kernel_rfl) ?_
  simp only [Act.put, List.setIfInBounds_toArray, List.set_cons_succ, List.set_cons_zero]
  refine gw_val (by kernel_rfl) (some 20) rfl (.slice ap 1 c) (by kernel_rfl) ?_
  simp only [Act.put, List.setIfInBounds_toArray, List.set_cons_succ, List.set_cons_zero]
  refine gw_val (by kernel_rfl) (some 21) rfl (.bool true) (by kernel_rfl) ?_
  simp only [Act.put, List.setIfInBounds_toArray, List.set_cons_succ, List.set_cons_zero]
  refine gw_val (by kernel_rfl) (some 5) rfl (.slice ap 1 c) (by kernel_rfl) ?_
  simp only [Act.put, List.setIfInBounds_toArray, List.set_cons_succ, List.set_cons_zero]
  refine gw_val (by kernel_rfl) (some 6) rfl (.bool true) (by kernel_rfl) ?_
  simp only [Act.put, List.setIfInBounds_toArray, List.set_cons_succ, List.set_cons_zero]
  apply wpList_nil
  go_upto_region 4 with fail
  apply wp_region_lit
  refine gw_val (by kernel_rfl) (some 22) rfl (.slice al 3 3) (by kernel_rfl) ?_
  simp only [Act.put, List.setIfInBounds_toArray, List.set_cons_succ, List.set_cons_zero]
  refine gw_call (by kernel_rfl) (some 23) rfl 10 #[.slice al 3 3] (.agg (w8s R)) (Below V1.heap.size V1) (by kernel_rfl) (C2 V1 hK1.1) (fun V2 hb2 => ?_)
  have hK2 := hK1.below hb2
  clear hK1 hb2
  simp only [Act.put, List.setIfInBounds_toArray, List.set_cons_succ, List.set_cons_zero]
  refine gw_val (by kernel_rfl) (some 24) rfl (.slice a1 1 1) (by kernel_rfl) ?_
  simp only [Act.put, List.setIfInBounds_toArray, List.set_cons_succ, List.set_cons_zero]
  refine gw_call (by kernel_rfl) (some 25) rfl 14 #[.slice a1 1 1] (.agg (w8s LA)) (Below V2.heap.size V2) (by kernel_rfl) (CA V2 hK2.1) (fun V3 hb3 => ?_)
  have hK3 := hK2.below hb3
  clear hK2 hb3
  simp only [Act.put, List.setIfInBounds_toArray, List.set_cons_succ, List.set_cons_zero]
  refine gw_val (by kernel_rfl) (some 26) rfl (.slice a2 1 1) (by kernel_rfl) ?_
  simp only [Act.put, List.setIfInBounds_toArray, List.set_cons_succ, List.set_cons_zero]
  refine gw_call (by kernel_rfl) (some 27) rfl 14 #[.slice a2 1 1] (.agg (w8s LB)) (Below V3.heap.size V3) (by kernel_rfl) (CB V3 hK3.1) (fun V4 hb4 => ?_)
  have hK4 := hK3.below hb4
  clear hK3 hb4
  simp only [Act.put, List.setIfInBounds_toArray, List.set_cons_succ, List.set_cons_zero]
  refine gw_call (by kernel_rfl) (some 28) rfl 12 #[.agg (w8s LA), .agg (w8s LB)] (.agg (w8s I)) (Below V4.heap.size V4) (by kernel_rfl) (CI V4 hK4.1) (fun V5 hb5 => ?_)
  have hK5 := hK4.below hb5
  clear hK4 hb5
  simp only [Act.put, List.setIfInBounds_toArray, List.set_cons_succ, List.set_cons_zero]
  refine gw_val (by kernel_rfl) (some 29) rfl (.slice a3 1 1) (by kernel_rfl) ?_
  simp only [Act.put, List.setIfInBounds_toArray, List.set_cons_succ, List.set_cons_zero]
  refine gw_call (by kernel_rfl) (some 30) rfl 14 #[.slice a3 1 1] (.agg (w8s LC)) (Below V5.heap.size V5) (by kernel_rfl) (CC V5 hK5.1) (fun V6 hb6 => ?_)
  have hK6 := hK5.below hb6
  clear hK5 hb6
  simp only [Act.put, List.setIfInBounds_toArray, List.set_cons_succ, List.set_cons_zero]
  refine gw_call (by kernel_rfl) (some 31) rfl 12 #[.agg (w8s I), .agg (w8s LC)] (.agg (w8s R)) (Below V6.heap.size V6) (by kernel_rfl) (CJ V6 hK6.1) (fun V7 hb7 => ?_)
  have hK7 := hK6.below hb7
  clear hK6 hb7
  simp only [Act.put, List.setIfInBounds_toArray, List.set_cons_succ, List.set_cons_zero]
  refine gw_val (by kernel_rfl) (some 32) rfl (.bool (R == R)) (eq_key rfl R R HR32.out HR32.out (by kernel_rfl) (by kernel_rfl) _) ?_
  rw [beq_self_eq_true]
  simp only [Act.put, List.setIfInBounds_toArray, List.set_cons_succ, List.set_cons_zero]
  refine gw_val (by kernel_rfl) (some 33) rfl (.bool true) (by kernel_rfl) ?_
  simp only [Act.put, List.setIfInBounds_toArray, List.set_cons_succ, List.set_cons_zero]
  refine gw_val (by kernel_rfl) (some 34) rfl (.bool true) (by kernel_rfl) ?_
  simp only [Act.put, List.setIfInBounds_toArray, List.set_cons_succ, List.set_cons_zero]
  refine gw_val (by kernel_rfl) (some 35) rfl (.bool true) (by kernel_rfl) ?_
  simp only [Act.put, List.setIfInBounds_toArray, List.set_cons_succ, List.set_cons_zero]
  refine gw_val (by kernel_rfl) (some 36) rfl (.bool true) (by kernel_rfl) ?_
  simp only [Act.put, List.setIfInBounds_toArray, List.set_cons_succ, List.set_cons_zero]
  refine gw_val (by kernel_rfl) (some 37) rfl (.slice ap 1 c) (by kernel_rfl) ?_
  simp only [Act.put, List.setIfInBounds_toArray, List.set_cons_succ, List.set_cons_zero]
  refine gw_val (by kernel_rfl) (some 38) rfl (.int .i64 1) (by kernel_rfl) ?_
  simp only [Act.put, List.setIfInBounds_toArray, List.set_cons_succ, List.set_cons_zero]
  refine gw_val (by kernel_rfl) (some 39) rfl (.bool true) (by kernel_rfl) ?_
  simp only [Act.put, List.setIfInBounds_toArray, List.set_cons_succ, List.set_cons_zero]
  refine gw_val (by kernel_rfl) (some 40) rfl (.bool true) (by kernel_rfl) ?_
  simp only [Act.put, List.setIfInBounds_toArray, List.set_cons_succ, List.set_cons_zero]
  refine gw_val (by kernel_rfl) (some 41) rfl (.bool true) (by kernel_rfl) ?_
  simp only [Act.put, List.setIfInBounds_toArray, List.set_cons_succ, List.set_cons_zero]
  refine gw_val (by kernel_rfl) (some 42) rfl (.slice al 3 3) (by kernel_rfl) ?_
  simp only [Act.put, List.setIfInBounds_toArray, List.set_cons_succ, List.set_cons_zero]
  refine gw_call (by kernel_rfl) (some 43) rfl 10 #[.slice al 3 3] (.agg (w8s R)) (Below V7.heap.size V7) (by kernel_rfl) (C2 V7 hK7.1) (fun V8 hb8 => ?_)
  have hK8 := hK7.below hb8
  clear hK7 hb8
  simp only [Act.put, List.setIfInBounds_toArray, List.set_cons_succ, List.set_cons_zero]
  refine gw_val (by kernel_rfl) (some 44) rfl (.slice a3 1 1) (by kernel_rfl) ?_
  simp only [Act.put, List.setIfInBounds_toArray, List.set_cons_succ, List.set_cons_zero]
  refine gw_val (by kernel_rfl) (some 45) rfl (.slice ap 1 c) (by kernel_rfl) ?_
  simp only [Act.put, List.setIfInBounds_toArray, List.set_cons_succ, List.set_cons_zero]
  refine gw_call (by kernel_rfl) (some 46) rfl 19 #[.agg (w8s R), .slice a3 1 1, .int .i64 2, .int .i64 3, .slice ap 1 c] (.bool true) (Below V8.heap.size V8) (by kernel_rfl) (CV V8 ap c hK8 hc) (fun V9 hb9 => ?_)
  have hK9 := hK8.below hb9
  clear hK8 hb9
  simp only [Act.put, List.setIfInBounds_toArray, List.set_cons_succ, List.set_cons_zero]
  refine gw_val (by kernel_rfl) (some 47) rfl (.bool true) (by kernel_rfl) ?_
  simp only [Act.put, List.setIfInBounds_toArray, List.set_cons_succ, List.set_cons_zero]
  refine gw_val (by kernel_rfl) (some 48) rfl (.bool true) (by kernel_rfl) ?_
  simp only [Act.put, List.setIfInBounds_toArray, List.set_cons_succ, List.set_cons_zero]
  refine gw_val (by kernel_rfl) (some 49) rfl (.slice al 3 3) (by kernel_rfl) ?_
  simp only [Act.put, List.setIfInBounds_toArray, List.set_cons_succ, List.set_cons_zero]
  refine gw_call (by kernel_rfl) (some 50) rfl 10 #[.slice al 3 3] (.agg (w8s R)) (Below V9.heap.size V9) (by kernel_rfl) (C2 V9 hK9.1) (fun V10 hb10 => ?_)
  have hK10 := hK9.below hb10
  clear hK9 hb10
  simp only [Act.put, List.setIfInBounds_toArray, List.set_cons_succ, List.set_cons_zero]
  refine gw_val (by kernel_rfl) (some 51) rfl (.slice a3 1 1) (by kernel_rfl) ?_
  simp only [Act.put, List.setIfInBounds_toArray, List.set_cons_succ, List.set_cons_zero]
  refine gw_val (by kernel_rfl) (some 52) rfl (.slice ap 1 c) (by kernel_rfl) ?_
  simp only [Act.put, List.setIfInBounds_toArray, List.set_cons_succ, List.set_cons_zero]
  refine gw_call (by kernel_rfl) (some 53) rfl 19 #[.agg (w8s R), .slice a3 1 1, .int .i64 3, .int .i64 3, .slice ap 1 c] (.bool false) (Below V10.heap.size V10) (by kernel_rfl) (CU V10 ap c hK10 hc) (fun V11 hb11 => ?_)
  have hK11 := hK10.below hb11
  clear hK10 hb11
  simp only [Act.put, List.setIfInBounds_toArray, List.set_cons_succ, List.set_cons_zero]
  refine gw_val (by kernel_rfl) (some 54) rfl (.bool true) (by kernel_rfl) ?_
  simp only [Act.put, List.setIfInBounds_toArray, List.set_cons_succ, List.set_cons_zero]
  refine gw_val (by kernel_rfl) (some 55) rfl (.bool true) (by kernel_rfl) ?_
  simp only [Act.put, List.setIfInBounds_toArray, List.set_cons_succ, List.set_cons_zero]
  refine gw_val (by kernel_rfl) (some 56) rfl (.bool true) (by kernel_rfl) ?_
  simp only [Act.put, List.setIfInBounds_toArray, List.set_cons_succ, List.set_cons_zero]
  refine gw_call (by kernel_rfl) (some 57) rfl 10 #[.slice none 0 0] (.agg (w8s E)) (Below V11.heap.size V11) (by kernel_rfl) (CE V11 hK11.1) (fun V12 hb12 => ?_)
  have hK12 := hK11.below hb12
  clear hK11 hb12
  simp only [Act.put, List.setIfInBounds_toArray, List.set_cons_succ, List.set_cons_zero]
  refine gw_call (by kernel_rfl) (some 58) rfl 21 #[.slice none 0 0] (.agg (w8s E)) (Below V12.heap.size V12) (by kernel_rfl) (CS V12 hK12.1) (fun V13 hb13 => ?_)
  have hK13 := hK12.below hb13
  clear hK12 hb13
  simp only [Act.put, List.setIfInBounds_toArray, List.set_cons_succ, List.set_cons_zero]
  refine gw_val (by kernel_rfl) (some 59) rfl (.bool (E == E)) (eq_key rfl E E HE32.out HE32.out (by kernel_rfl) (by kernel_rfl) _) ?_
  rw [beq_self_eq_true]
  simp only [Act.put, List.setIfInBounds_toArray, List.set_cons_succ, List.set_cons_zero]
  refine gw_val (by kernel_rfl) (some 60) rfl (.bool true) (by kernel_rfl) ?_
  simp only [Act.put, List.setIfInBounds_toArray, List.set_cons_succ, List.set_cons_zero]
  refine gw_val (by kernel_rfl) (some 0) rfl (.bool true) (by kernel_rfl) ?_
  simp only [Act.put, List.setIfInBounds_toArray, List.set_cons_succ, List.set_cons_zero]
  apply wpList_nil
  have HB := Lib.hid hK13.1.2.2.2.2.2
  clear hK13 C2 CA CB CC CI CJ CV CU CE CS
  go_wp2_with fail
  go_ret
  exact ⟨rfl, HB.out⟩
end Go.Proofs.YtbhnbcpllhefgaaDoor
