/-
  The contracts of the program's climb and Verify.
-/
import Derived.Test.YtbhnbcpllhefgaaDoorPP
namespace Go.Proofs.YtbhnbcpllhefgaaDoor
open Go.RowKit
set_option linter.unusedSimpArgs false
set_option linter.unusedVariables false

/-- What the region keeps that takes the last key off the path: bp: the key's place is made, bs: the key lies in it. -/
def PL (w : World) (A : List Int) (al : Option Addr) (p : List (List Int)) (last : List Int) (gl : Nat) (bp bs : Bool) (V : World) : Prop :=
  CC w A (List.replicate 32 0) al p V ∧ (bp = false → V.heap.size = gl) ∧ (bp = true → Ab V gl 24 (cond bs last (List.replicate 32 0))) ∧ (bs = true → bp = true) ∧ w.heap.size + 2 ≤ gl ∧ ∀ x, al = some x → x.block < gl
theorem PL.start {w W : World} {A : List Int} {al : Option Addr} {p : List (List Int)} {last : List Int} {gl : Nat} (h : CC w A (List.replicate 32 0) al p W) (hg : gl = W.heap.size) (hp : 0 < p.length) : PL w A al p last gl false false { W with drawn := W.drawn + 1 } :=
  ⟨h.below (Below.refl _ W).drew, fun _ => hg.symm, fun h => (by cases h), fun h => h, by have := h.2.1.lt; omega, fun x hx => by
    obtain ⟨b2, off2, e2, hlt2, -, -⟩ := h.2.2.1 0 hp
    rw [hx] at e2
    simp only [Option.some.injEq] at e2
    rw [e2]
    show b2 < gl
    omega⟩
theorem PL.made {w V : World} {A : List Int} {al : Option Addr} {p : List (List Int)} {last : List Int} {gl : Nat} {bs : Bool} (h : CC w A (List.replicate 32 0) al p V) (hg : V.heap.size = gl) (h2 : w.heap.size + 2 ≤ gl ∧ ∀ x, al = some x → x.block < gl) (hs : bs = false) : PL w A al p last gl true bs (V.alloc (.cells (w8s (List.replicate 32 0)) 24)) := by
  subst hs
  exact ⟨h.below ((Below.refl _ V).alloc (Nat.le_refl _) _), fun h => (by cases h), fun _ => by rw [← hg]; exact heap_alloc_last V _, fun h => (by cases h), h2⟩
theorem PL.stored {w V : World} {A : List Int} {al : Option Addr} {p : List (List Int)} {last : List Int} {gl : Nat} (h : PL w A al p last gl true false V) (hl : last.length = 32) : PL w A al p last gl true true (V.setRow gl (w8s last)) := by
  obtain ⟨⟨a, z, r, bw⟩, -, h2, -, h3, h4⟩ := h
  have hA := h2 rfl
  have hb : But gl V (V.setRow gl (w8s last)) := But.setRow V _
  refine ⟨⟨a.below (by omega) hb.1, z.below (by omega) hb.1, ?_, bw.trans (hb.1.mono (by omega))⟩, fun h => (by cases h), fun _ => setRow_heap _ _ _ _ _ _ hA, fun _ => rfl, h3, h4⟩
  intro i hi
  obtain ⟨b, off, e, hlt, hr, hl⟩ := r i hi
  have hbB : b < gl := h4 _ e
  exact ⟨b, off, e, Nat.lt_of_lt_of_le hlt hb.1.size, fun j v hv => (hb.1.cell (p := ⟨b, off + i * 32 + j, none⟩) hbB).trans (hr j v hv), hl⟩
theorem PL.fin {w V : World} {A : List Int} {al : Option Addr} {p : List (List Int)} {last : List Int} {gl : Nat} (hG : Glob w) (h : PL w A al p last gl true true V) : CC w A (List.replicate 32 0) al p V ∧ Ab V gl 24 last ∧ Glob V := ⟨h.1, h.2.2.1 rfl, hG.below hG.size h.1.2.2.2⟩
theorem load_last {w V : World} {A Z last : List Int} {b off m : Nat} {p0 : List (List Int)} (h : CC w A Z (some ⟨b, off, none⟩) (p0 ++ [last]) V) (hm : p0.length = m) (hl : last.length = 32) : (Instr.loadAt 24 (.pointer (some ⟨b, off + m * 32, none⟩))).run Tryd.prog V = .ok (.agg (w8s last)) V := by
  obtain ⟨b2, off2, e2, -, hr, -⟩ := h.2.2.1 p0.length (by simp)
  simp only [Option.some.injEq, Addr.mk.injEq, and_true] at e2
  obtain ⟨rfl, rfl⟩ := e2
  have eg : (p0 ++ [last]).getD p0.length [] = last := by simp [List.getD]
  rw [eg, hm] at hr
  exact run_loadAt_mid V b (off + m * 32) 24 (last.map (Value.int .u8)) (.array 32 5) hr (by kernel_rfl) rfl (by rw [List.length_map, hl]; kernel_rfl)
theorem addr_last (b off m c : Nat) (V : World) (ρ : Operand → Value) (o : Oper) {x y : Operand} (ho : o.op = .indexAddr 35 x y) (hx : ρ x = .slice (some ⟨b, off, none⟩) (m + 1) c) (hy : ρ y = .int .i64 m) : (execOp ρ o).run Tryd.prog V = .ok (.value (.pointer (some ⟨b, off + m * 32, none⟩))) V := by
  have hs : (sizeOf (Tryd.prog.elem 35)).run Tryd.prog V = .ok 32 V := by kernel_rfl
  have hlm : (m : Int) < (m : Int) + 1 := by omega
  unfold execOp
  simp only [ho, hx, hy]
  go_simp
theorem sub_one {ρ : Operand → Value} {o : Oper} {x : Operand} (ho : o.op = .binOp .sub 3 x (.const (.int .i64 1)) 3) (m : Nat) (hm : m ≤ 1000000) (hx : ρ x = .int .i64 (m + 1 : Nat)) (w : World) (hρ : ρ (.const (.int .i64 1)) = .int .i64 1 := by rfl) : (execOp ρ o).run Tryd.prog w = .ok (.value (.int .i64 m)) w := by
  unfold execOp
  simp only [ho, hx, hρ]
  simp [go_sem]
  rw [IntKind.wrap_i64]
  omega

set_option maxRecDepth 100000 in
set_option maxHeartbeats 8000000 in
theorem pclimb_step (p : List (List Int)) (al : Option Addr) (c i n : Nat) (A : List Int) (w : World) (hG : Glob w) (hA : A.length = 32) (hA8 : ∀ x, x ∈ A → W8 x) (hp8 : ∀ k ∈ p, ∀ x, x ∈ k → W8 x) (hn : n ≤ 1000000) (hi : i < n) (hpl : p.length ≤ 1000) (hc : p.length ≤ c) (hR : Rk w al p)
    (ih : ∀ (p2 : List (List Int)) (al2 : Option Addr) (c2 i2 n2 : Nat) (w2 : World), p2.length < p.length → p2.length ≤ c2 → Rk w2 al2 p2 → (∀ k ∈ p2, ∀ x, x ∈ k → W8 x) → n2 ≤ 1000000 → i2 < n2 → Glob w2 → Calls Tryd.prog 27 #[.agg (w8s A), .int .i64 i2, .int .i64 n2, .slice al2 p2.length c2] w2 fun e w' => e = .returned (.tuple #[.agg (w8s (climbX A i2 n2 p2).1), .bool (climbX A i2 n2 p2).2]) ∧ Below w2.heap.size w2 w') :
    Calls Tryd.prog 27 #[.agg (w8s A), .int .i64 i, .int .i64 n, .slice al p.length c] w fun e w' => e = .returned (.tuple #[.agg (w8s (climbX A i n p).1), .bool (climbX A i n p).2]) ∧ Below w.heap.size w w' := by
  have hb0 : Below w.heap.size w ((w.alloc (.cells (w8s A) 24)).alloc (.cells (w8s (List.replicate 32 0)) 24)) := ((Below.refl _ w).alloc (by simp) _).alloc (by simp) _
  have hC : CC w A (List.replicate 32 0) al p ((w.alloc (.cells (w8s A) 24)).alloc (.cells (w8s (List.replicate 32 0)) 24)) := by
    refine ⟨Ab.alloc (heap_alloc_last w _) _, ?_, hR.below hb0, hb0⟩
    have := heap_alloc_last (w.alloc (.cells (w8s A) 24)) (.cells (w8s (List.replicate 32 0)) 24)
    simpa [Ab] using this
  have hsA : (w8s A).size = 32 := by rw [size_w8s, hA]
  by_cases h1 : n = 1
  · subst h1
    rw [climbX_one]
    generalize hl : p.length = m at *
    clear hl ih hR hb0 hp8 hn hi
    go_enter Tryd.func27, Tryd.ntmps27
    go_upto_region 2 with fail
    change Code.wp _ _ _ _ ((w.alloc (.cells (w8s A) 24)).alloc (.cells (w8s (List.replicate 32 0)) 24))
    generalize (w.alloc (.cells (w8s A) 24)).alloc (.cells (w8s (List.replicate 32 0)) 24) = W at *
    apply wp_region_lit
    refine gw_load (by kernel_rfl) (some 19) rfl 24 (.tmp 4) rfl ⟨w.heap.size, 0, none⟩ (.agg (w8s A)) (by kernel_rfl) (load_key hC.1 hA) ?_
    simp only [Act.put, List.setIfInBounds_toArray, List.set_cons_succ, List.set_cons_zero]
    refine gw_val (by kernel_rfl) (some 20) rfl (.slice al m c) (by kernel_rfl) ?_
    simp only [Act.put, List.setIfInBounds_toArray, List.set_cons_succ, List.set_cons_zero]
    refine gw_val (by kernel_rfl) (some 21) rfl (.int .i64 m) (by kernel_rfl) ?_
    simp only [Act.put, List.setIfInBounds_toArray, List.set_cons_succ, List.set_cons_zero]
    refine gw_val (by kernel_rfl) (some 22) rfl (.bool (decide (m = 0))) (eq_zero rfl m (by kernel_rfl) _) ?_
    simp only [Act.put, List.setIfInBounds_toArray, List.set_cons_succ, List.set_cons_zero]
    apply wpList_store_at (ty := 24) (x := .tmp 8) (y := .tmp 19) (g := w.heap.size + 1) (c := w8s (List.replicate 32 0)) (c' := w8s A)
    case hgd => rfl
    case ho => rfl
    case hx => kernel_rfl
    case hy => kernel_rfl
    case hg => exact hC.2.1
    case hi => rw [hsA]; kernel_rfl
    case hz => rw [hsA]; rfl
    case h1 => exact one_w8s _
    simp only [Act.put]
    refine gw_val (by kernel_rfl) (some 9) rfl (.bool (decide (m = 0))) (by kernel_rfl) ?_
    simp only [Act.put, List.setIfInBounds_toArray, List.set_cons_succ, List.set_cons_zero]
    apply wpList_nil
    have hA9 : Ab (W.setRow (w.heap.size + 1) (w8s A)) (w.heap.size + 1) 24 A := setRow_heap _ _ _ _ _ _ hC.2.1
    have hb9 := belowRow hC.2.2.2 (by omega : w.heap.size ≤ w.heap.size + 1) (w8s A)
    generalize W.setRow (w.heap.size + 1) (w8s A) = V9 at *
    clear hC hG
    go_wp2_with fail
    exact bodyPost_ret (results_cell_tmp (p := 8) (q := 9) (by kernel_rfl) (by kernel_rfl) (by kernel_rfl) hA9 (by kernel_rfl) (by rw [hA]; kernel_rfl)) rfl ⟨rfl, hb9⟩
  · have hd1 : ((n : Int) == 1) = false := by
      have : ((n : Nat) : Int) ≠ 1 := by omega
      exact beq_false_of_ne this
    rcases List.eq_nil_or_concat p with rfl | ⟨p0, last, rfl⟩
    · rw [climbX_nil A i n h1]
      obtain ⟨Z, hZ⟩ : ∃ Z, Z = List.replicate 32 (0 : Int) := ⟨_, rfl⟩
      have hsZ : (w8s Z).size = 32 := by rw [hZ]; rfl
      have hZl : Z.length = 32 := by rw [hZ]; rfl
      clear ih hR hb0 hp8 hi
      go_enter Tryd.func27, Tryd.ntmps27
      go_upto_region 4 with fail
      change Code.wp _ _ _ _ ((w.alloc (.cells (w8s A) 24)).alloc (.cells (w8s (List.replicate 32 0)) 24))
      generalize (w.alloc (.cells (w8s A) 24)).alloc (.cells (w8s (List.replicate 32 0)) 24) = W at *
      apply wp_region_lit
      refine gw_val (by kernel_rfl) (some 26) rfl (.agg (w8s (List.replicate 32 0))) (by kernel_rfl) ?_
      simp only [Act.put, List.setIfInBounds_toArray, List.set_cons_succ, List.set_cons_zero]
      rw [← hZ] at hC ⊢
      apply wpList_store_at (ty := 24) (x := .tmp 8) (y := .tmp 26) (g := w.heap.size + 1) (c := w8s Z) (c' := w8s Z)
      case hgd => rfl
      case ho => rfl
      case hx => kernel_rfl
      case hy => kernel_rfl
      case hg => exact hC.2.1
      case hi => rw [hsZ]; kernel_rfl
      case hz => rfl
      case h1 => exact one_w8s _
      simp only [Act.put]
      refine gw_val (by kernel_rfl) (some 9) rfl (.bool false) (by kernel_rfl) ?_
      simp only [Act.put, List.setIfInBounds_toArray, List.set_cons_succ, List.set_cons_zero]
      apply wpList_nil
      have hA9 : Ab (W.setRow (w.heap.size + 1) (w8s Z)) (w.heap.size + 1) 24 Z := setRow_heap _ _ _ _ _ _ hC.2.1
      have hb9 := belowRow hC.2.2.2 (by omega : w.heap.size ≤ w.heap.size + 1) (w8s Z)
      generalize W.setRow (w.heap.size + 1) (w8s Z) = V9 at *
      clear hC hG
      go_wp2_with fail
      exact bodyPost_ret (results_cell_tmp (p := 8) (q := 9) (by kernel_rfl) (by kernel_rfl) (by kernel_rfl) hA9 (by kernel_rfl) (by rw [hZl]; kernel_rfl)) rfl ⟨by rw [hZ], hb9⟩
    · rw [List.concat_eq_append] at *
      rw [climbX_snoc A i n p0 last h1]
      have hm : (p0 ++ [last]).length = p0.length + 1 := by simp
      rw [hm] at hpl hc ih
      obtain ⟨b, off, rfl, -, -, hll⟩ := hC.2.2.1 p0.length (by omega)
      have eg : (p0 ++ [last]).getD p0.length [] = last := by simp [List.getD]
      rw [eg] at hll
      have hl8 : ∀ x, x ∈ last → W8 x := hp8 last (by simp)
      have hsL : (w8s last).size = 32 := by rw [size_w8s, hll]
      obtain ⟨k1, k2, k3⟩ := halfN_spec n (by omega)
      have CH := fun V => phalf_any n V (by omega) hn
      have hp80 : ∀ k ∈ p0, ∀ x, x ∈ k → W8 x := fun k hk => hp8 k (by simp [hk])
      have hRp : ∀ V, Rk V (some ⟨b, off, none⟩) (p0 ++ [last]) → Rk V (some ⟨b, off, none⟩) p0 := fun V h => by
        have := h.take p0.length
        rwa [List.take_left] at this
      have hts : ∀ V, (Instr.slice 35 (.slice (some ⟨b, off, none⟩) (p0.length + 1) c) none (some (.int .i64 (p0.length : Int))) none).run Tryd.prog V = .ok (.slice (some ⟨b, off, none⟩) p0.length c) V := fun V => keys_to _ _ c p0.length V (by omega)
      rw [hm]
      obtain ⟨m, hlq⟩ : ∃ m, p0.length = m := ⟨_, rfl⟩
      rw [hlq] at hpl hc ih hts ⊢
      clear eg hm
      by_cases hik : i < halfN n
      · rw [if_pos hik]
        have hd3 : decide ((i : Int) < ((halfN n : Nat) : Int)) = true := decide_eq_true (by omega)
        have hX := climbW_byte A hA hA8 p0.reverse i (halfN n)
        have IH := fun (V : World) (hV : Glob V) (h : Rk V (some ⟨b, off, none⟩) p0) => ih p0 (some ⟨b, off, none⟩) c i (halfN n) V (by omega) (by omega) h hp80 (by omega) (by omega) hV
        rw [hlq] at IH
        rw [show climbW A i (halfN n) p0.reverse = climbX A i (halfN n) p0 from rfl] at hX
        have hXl := hX.1
        have hX8 := hX.2
        have CI := fun V (hV : Glob V) => pinner_any (climbX A i (halfN n) p0).1 last V hV hXl hll hX8 hl8
        generalize (climbX A i (halfN n) p0).1 = X at *
        generalize (climbX A i (halfN n) p0).2 = ok at *
        have hS : (innerL X last).length = 32 := shaL_len _
        generalize innerL X last = S at *
        have hsX : (w8s X).size = 32 := by rw [size_w8s, hXl]
        have hsS : (w8s S).size = 32 := by rw [size_w8s, hS]
        generalize halfN n = k at *
        have HM : Hid (m ≤ 1000000) := Lib.hid (by omega)
        have HK : Hid (k < n) := Lib.hid k2
        clear ih hR hb0 hp8 hp80 hX hX8 hl8 hpl hA8 k1 k2 k3
        go_enter Tryd.func27, Tryd.ntmps27
        go_upto_region 5 with fail
        change Code.wp _ _ _ _ ((w.alloc (.cells (w8s A) 24)).alloc (.cells (w8s (List.replicate 32 0)) 24))
        generalize (w.alloc (.cells (w8s A) 24)).alloc (.cells (w8s (List.replicate 32 0)) 24) = W at *
        obtain ⟨gl, hgl⟩ : ∃ gl, gl = W.heap.size := ⟨_, rfl⟩
        have h0 : PL w A (some ⟨b, off, none⟩) (p0 ++ [last]) last gl false false { W with drawn := W.drawn + 1 } := PL.start hC hgl (by simp)
        have LOADP := fun (V : World) (h : CC w A (List.replicate 32 0) (some ⟨b, off, none⟩) (p0 ++ [last]) V) => load_last h hlq hll
        clear hC hgl
        refine wp_region_inv (fun listed a V => ∃ b0 b1 b2 b3 b4 b5 b6 b7 b8 b9 b10 b11 b12 b13 : Bool, listed = #[b0, b1, b2, b3, b4, b5, b6, b7, b8, b9, b10, b11, b12, b13] ∧ a = { tmps := #[.agg (w8s A), .int .i64 i, .int .i64 n, .slice (some ⟨b, off, none⟩) (m + 1) c, .pointer (some ⟨w.heap.size, 0, none⟩), undef, undef, undef, .pointer (some ⟨w.heap.size + 1, 0, none⟩), .bool false, (cond b11 (.pointer (some ⟨gl, 0, none⟩)) undef), (cond b13 (.slice (some ⟨b, off, none⟩) m c) undef), undef, undef, undef, undef, undef, .int .i64 n, .bool false, undef, undef, undef, undef, .slice (some ⟨b, off, none⟩) (m + 1) c, .int .i64 (m + 1 : Nat), .bool false, undef, (cond b0 (.slice (some ⟨b, off, none⟩) (m + 1) c) undef), (cond b1 (.slice (some ⟨b, off, none⟩) (m + 1) c) undef), (cond b2 (.int .i64 (m + 1 : Nat)) undef), (cond b3 (.int .i64 m) undef), (cond b4 (.pointer (some ⟨b, off + m * 32, none⟩)) undef), (cond b5 (.agg (w8s last)) undef), (cond b6 (.slice (some ⟨b, off, none⟩) (m + 1) c) undef), (cond b7 (.slice (some ⟨b, off, none⟩) (m + 1) c) undef), (cond b8 (.int .i64 (m + 1 : Nat)) undef), (cond b9 (.int .i64 m) undef), (cond b10 (.slice (some ⟨b, off, none⟩) m c) undef), undef, undef, undef, undef, undef, undef, undef, undef, undef, undef, undef, undef, undef, undef, undef, undef, undef, undef, undef, undef, undef, undef, undef, undef, undef, undef, undef, undef, undef, undef, undef, undef, undef], defers := [] } ∧ PL w A (some ⟨b, off, none⟩) (p0 ++ [last]) last gl b11 b12 V) (by kernel_rfl) (by kernel_rfl) ?_ ?_ ?_
        · exact ⟨false, false, false, false, false, false, false, false, false, false, false, false, false, false, rfl, rfl, h0⟩
        · intro i listed a V hi hr hJ
          obtain ⟨b0, b1, b2, b3, b4, b5, b6, b7, b8, b9, b10, b11, b12, b13, rfl, rfl, hF⟩ := hJ
          have hi2 : i < 14 := hi
          have hi3 : i = 0 ∨ i = 1 ∨ i = 2 ∨ i = 3 ∨ i = 4 ∨ i = 5 ∨ i = 6 ∨ i = 7 ∨ i = 8 ∨ i = 9 ∨ i = 10 ∨ i = 11 ∨ i = 12 ∨ i = 13 := by omega
          rcases hi3 with rfl | rfl | rfl | rfl | rfl | rfl | rfl | rfl | rfl | rfl | rfl | rfl | rfl | rfl
          · obtain rfl : b0 = false := ready_self hr
            refine st_val rfl (by kernel_rfl) (some 27) rfl (.slice (some ⟨b, off, none⟩) (m + 1) c) V (by kernel_rfl) ?_
            exact ⟨true, b1, b2, b3, b4, b5, b6, b7, b8, b9, b10, b11, b12, b13, rfl, rfl, hF⟩
          · obtain rfl : b1 = false := ready_self hr
            refine st_val rfl (by kernel_rfl) (some 28) rfl (.slice (some ⟨b, off, none⟩) (m + 1) c) V (by kernel_rfl) ?_
            exact ⟨b0, true, b2, b3, b4, b5, b6, b7, b8, b9, b10, b11, b12, b13, rfl, rfl, hF⟩
          · obtain rfl : b2 = false := ready_self hr
            obtain rfl : b1 = true := ready_dep hr 1 (by kernel_rfl)
            refine st_val rfl (by kernel_rfl) (some 29) rfl (.int .i64 (m + 1 : Nat)) V (by kernel_rfl) ?_
            exact ⟨b0, true, true, b3, b4, b5, b6, b7, b8, b9, b10, b11, b12, b13, rfl, rfl, hF⟩
          · obtain rfl : b3 = false := ready_self hr
            obtain rfl : b2 = true := ready_dep hr 2 (by kernel_rfl)
            refine st_val rfl (by kernel_rfl) (some 30) rfl (.int .i64 m) V (sub_one rfl m HM.out (by kernel_rfl) V) ?_
            exact ⟨b0, b1, true, true, b4, b5, b6, b7, b8, b9, b10, b11, b12, b13, rfl, rfl, hF⟩
          · obtain rfl : b4 = false := ready_self hr
            obtain rfl : b0 = true := ready_dep hr 0 (by kernel_rfl)
            obtain rfl : b3 = true := ready_dep hr 3 (by kernel_rfl)
            refine st_val rfl (by kernel_rfl) (some 31) rfl (.pointer (some ⟨b, off + m * 32, none⟩)) V (addr_last b off m c V _ _ rfl (by kernel_rfl) (by kernel_rfl)) ?_
            exact ⟨true, b1, b2, true, true, b5, b6, b7, b8, b9, b10, b11, b12, b13, rfl, rfl, hF⟩
          · obtain rfl : b5 = false := ready_self hr
            obtain rfl : b4 = true := ready_dep hr 4 (by kernel_rfl)
            refine st_load rfl (by kernel_rfl) (some 32) rfl 24 (.tmp 31) rfl ⟨b, off + m * 32, none⟩ (.agg (w8s last)) (by kernel_rfl) (LOADP V hF.1) ?_
            exact ⟨b0, b1, b2, b3, true, true, b6, b7, b8, b9, b10, b11, b12, b13, rfl, rfl, hF⟩
          · obtain rfl : b6 = false := ready_self hr
            refine st_val rfl (by kernel_rfl) (some 33) rfl (.slice (some ⟨b, off, none⟩) (m + 1) c) V (by kernel_rfl) ?_
            exact ⟨b0, b1, b2, b3, b4, b5, true, b7, b8, b9, b10, b11, b12, b13, rfl, rfl, hF⟩
          · obtain rfl : b7 = false := ready_self hr
            refine st_val rfl (by kernel_rfl) (some 34) rfl (.slice (some ⟨b, off, none⟩) (m + 1) c) V (by kernel_rfl) ?_
            exact ⟨b0, b1, b2, b3, b4, b5, b6, true, b8, b9, b10, b11, b12, b13, rfl, rfl, hF⟩
          · obtain rfl : b8 = false := ready_self hr
            obtain rfl : b7 = true := ready_dep hr 7 (by kernel_rfl)
            refine st_val rfl (by kernel_rfl) (some 35) rfl (.int .i64 (m + 1 : Nat)) V (by kernel_rfl) ?_
            exact ⟨b0, b1, b2, b3, b4, b5, b6, true, true, b9, b10, b11, b12, b13, rfl, rfl, hF⟩
          · obtain rfl : b9 = false := ready_self hr
            obtain rfl : b8 = true := ready_dep hr 8 (by kernel_rfl)
            refine st_val rfl (by kernel_rfl) (some 36) rfl (.int .i64 m) V (sub_one rfl m HM.out (by kernel_rfl) V) ?_
            exact ⟨b0, b1, b2, b3, b4, b5, b6, b7, true, true, b10, b11, b12, b13, rfl, rfl, hF⟩
          · obtain rfl : b10 = false := ready_self hr
            obtain rfl : b6 = true := ready_dep hr 6 (by kernel_rfl)
            obtain rfl : b9 = true := ready_dep hr 9 (by kernel_rfl)
            refine st_slice_to rfl (by kernel_rfl) (some 37) rfl 35 (.tmp 33) (.tmp 36) rfl (.slice (some ⟨b, off, none⟩) (m + 1) c) (.int .i64 m) (.slice (some ⟨b, off, none⟩) m c) (by kernel_rfl) (by kernel_rfl) (hts V) ?_
            exact ⟨b0, b1, b2, b3, b4, b5, true, b7, b8, true, true, b11, b12, b13, rfl, rfl, hF⟩
          · obtain rfl : b11 = false := ready_self hr
            obtain ⟨hF1, hF2, hF3, hF4, hF5⟩ := hF
            have hgV := hF2 rfl
            rw [← hgV]
            refine st_val rfl (by kernel_rfl) (some 10) rfl (.pointer (some ⟨V.heap.size, 0, none⟩)) (V.alloc (.cells (w8s (List.replicate 32 0)) 24)) (by kernel_rfl) ?_
            rw [hgV]
            exact ⟨b0, b1, b2, b3, b4, b5, b6, b7, b8, b9, b10, true, b12, b13, rfl, rfl, PL.made hF1 hgV hF5 (by cases b12; rfl; exact absurd (hF4 rfl) (by decide))⟩
          · obtain rfl : b12 = false := ready_self hr
            obtain rfl : b5 = true := ready_dep hr 5 (by kernel_rfl)
            obtain rfl : b11 = true := ready_dep hr 11 (by kernel_rfl)
            refine st_store rfl (by kernel_rfl) rfl 24 (.tmp 10) (.tmp 32) rfl gl (w8s (List.replicate 32 0)) (w8s last) (by kernel_rfl) (by kernel_rfl) (hF.2.2.1 rfl) (by rw [hsL]; kernel_rfl) (by rw [hsL]; rfl) (one_w8s _) ?_
            exact ⟨b0, b1, b2, b3, b4, true, b6, b7, b8, b9, b10, true, true, b13, rfl, rfl, PL.stored hF hll⟩
          · obtain rfl : b13 = false := ready_self hr
            obtain rfl : b0 = true := ready_dep hr 0 (by kernel_rfl)
            obtain rfl : b1 = true := ready_dep hr 1 (by kernel_rfl)
            obtain rfl : b2 = true := ready_dep hr 2 (by kernel_rfl)
            obtain rfl : b3 = true := ready_dep hr 3 (by kernel_rfl)
            obtain rfl : b4 = true := ready_dep hr 4 (by kernel_rfl)
            obtain rfl : b5 = true := ready_dep hr 5 (by kernel_rfl)
            obtain rfl : b6 = true := ready_dep hr 6 (by kernel_rfl)
            obtain rfl : b7 = true := ready_dep hr 7 (by kernel_rfl)
            obtain rfl : b8 = true := ready_dep hr 8 (by kernel_rfl)
            obtain rfl : b9 = true := ready_dep hr 9 (by kernel_rfl)
            obtain rfl : b10 = true := ready_dep hr 10 (by kernel_rfl)
            obtain rfl : b11 = true := ready_dep hr 11 (by kernel_rfl)
            obtain rfl : b12 = true := ready_dep hr 12 (by kernel_rfl)
            refine st_val rfl (by kernel_rfl) (some 11) rfl (.slice (some ⟨b, off, none⟩) m c) V (by kernel_rfl) ?_
            exact ⟨true, true, true, true, true, true, true, true, true, true, true, true, true, true, rfl, rfl, hF⟩
        · intro a V hJ
          obtain ⟨b0, b1, b2, b3, b4, b5, b6, b7, b8, b9, b10, b11, b12, b13, he, rfl, hF⟩ := hJ
          have he : (#[true, true, true, true, true, true, true, true, true, true, true, true, true, true] : Array Bool) = #[b0, b1, b2, b3, b4, b5, b6, b7, b8, b9, b10, b11, b12, b13] := he
          simp only [Array.mk.injEq, List.cons.injEq, and_true] at he
          obtain ⟨rfl, rfl, rfl, rfl, rfl, rfl, rfl, rfl, rfl, rfl, rfl, rfl, rfl, rfl⟩ := he
          simp only [cond_true]
          obtain ⟨hC, hLA, hGV⟩ := PL.fin hG hF
          clear hF h0 LOADP he
          go_upto_region 8 with (go_at_call 23; refine (CH _).mono ?_; rintro e w1 ⟨rfl, rfl⟩)
          apply wp_region_lit
          refine gw_load (by kernel_rfl) (some 44) rfl 24 (.tmp 4) rfl ⟨w.heap.size, 0, none⟩ (.agg (w8s A)) (by kernel_rfl) (load_key hC.1 hA) ?_
          simp only [Act.put, List.setIfInBounds_toArray, List.set_cons_succ, List.set_cons_zero]
          refine gw_val (by kernel_rfl) (some 45) rfl (.int .i64 i) (by kernel_rfl) ?_
          simp only [Act.put, List.setIfInBounds_toArray, List.set_cons_succ, List.set_cons_zero]
          refine gw_val (by kernel_rfl) (some 46) rfl (.int .i64 k) (by kernel_rfl) ?_
          simp only [Act.put, List.setIfInBounds_toArray, List.set_cons_succ, List.set_cons_zero]
          refine gw_val (by kernel_rfl) (some 47) rfl (.slice (some ⟨b, off, none⟩) m c) (by kernel_rfl) ?_
          simp only [Act.put, List.setIfInBounds_toArray, List.set_cons_succ, List.set_cons_zero]
          refine gw_call (by kernel_rfl) (some 48) rfl 27 #[.agg (w8s A), .int .i64 i, .int .i64 k, .slice (some ⟨b, off, none⟩) m c] (.tuple #[.agg (w8s X), .bool ok]) (Below V.heap.size V) (by kernel_rfl) (IH V hGV (hRp V hC.2.2.1)) (fun V2 hb2 => ?_)
          have hC2 := hC.below hb2
          have hL2 := hLA.below hLA.lt hb2
          simp only [Act.put, List.setIfInBounds_toArray, List.set_cons_succ, List.set_cons_zero]
          refine gw_val (by kernel_rfl) (some 43) rfl (.tuple #[.agg (w8s X), .bool ok]) (by kernel_rfl) ?_
          simp only [Act.put, List.setIfInBounds_toArray, List.set_cons_succ, List.set_cons_zero]
          refine gw_val (by kernel_rfl) (some 49) rfl (.agg (w8s X)) (by kernel_rfl) ?_
          simp only [Act.put, List.setIfInBounds_toArray, List.set_cons_succ, List.set_cons_zero]
          refine gw_val (by kernel_rfl) (some 50) rfl (.bool ok) (by kernel_rfl) ?_
          simp only [Act.put, List.setIfInBounds_toArray, List.set_cons_succ, List.set_cons_zero]
          refine run_to rfl (some 13) rfl (.pointer (some ⟨V2.heap.size, 0, none⟩)) (V2.alloc (.cells (w8s (List.replicate 32 0)) 24)) (by kernel_rfl) ?_
          simp only [Act.put, List.setIfInBounds_toArray, List.set_cons_succ, List.set_cons_zero]
          apply wpList_store_new (w := V2) (ty := 24) (x := .tmp 13) (y := .tmp 49) (c := w8s (List.replicate 32 0)) (c' := w8s X)
          case hgd => rfl
          case ho => rfl
          case hx => kernel_rfl
          case hy => kernel_rfl
          case hi => rw [hsX]; kernel_rfl
          case hz => rw [hsX]; rfl
          case h1 => exact one_w8s _
          simp only [Act.put]
          refine gw_val (by kernel_rfl) (some 14) rfl (.bool ok) (by kernel_rfl) ?_
          simp only [Act.put, List.setIfInBounds_toArray, List.set_cons_succ, List.set_cons_zero]
          apply wpList_nil
          have hXA : Ab (V2.alloc (.cells (w8s X) 24)) V2.heap.size 24 X := heap_alloc_last _ _
          have hbA : Below V2.heap.size V2 (V2.alloc (.cells (w8s X) 24)) := (Below.refl _ V2).alloc (Nat.le_refl _) _
          have hC3 := hC2.below hbA
          have hL3 := hL2.below hL2.lt hbA
          generalize V2.alloc (.cells (w8s X) 24) = V3 at *
          generalize V2.heap.size = gx at *
          clear hC hC2 hL2 hb2 hbA hLA IH hRp CH hGV
          have hG3 := hG.below hG.size hC3.2.2.2
          go_upto_region 9 with fail
          apply wp_region_lit
          refine gw_load (by kernel_rfl) (some 51) rfl 24 (.tmp 13) rfl ⟨gx, 0, none⟩ (.agg (w8s X)) (by kernel_rfl) (load_key hXA hXl) ?_
          simp only [Act.put, List.setIfInBounds_toArray, List.set_cons_succ, List.set_cons_zero]
          refine gw_load (by kernel_rfl) (some 52) rfl 24 (.tmp 10) rfl ⟨gl, 0, none⟩ (.agg (w8s last)) (by kernel_rfl) (load_key hL3 hll) ?_
          simp only [Act.put, List.setIfInBounds_toArray, List.set_cons_succ, List.set_cons_zero]
          refine gw_call (by kernel_rfl) (some 53) rfl 12 #[.agg (w8s X), .agg (w8s last)] (.agg (w8s S)) (Below V3.heap.size V3) (by kernel_rfl) (CI V3 hG3) (fun V5 hb5 => ?_)
          have hC5 := hC3.below hb5
          simp only [Act.put, List.setIfInBounds_toArray, List.set_cons_succ, List.set_cons_zero]
          refine gw_val (by kernel_rfl) (some 54) rfl (.bool ok) (by kernel_rfl) ?_
          simp only [Act.put, List.setIfInBounds_toArray, List.set_cons_succ, List.set_cons_zero]
          apply wpList_store_at (ty := 24) (x := .tmp 8) (y := .tmp 53) (g := w.heap.size + 1) (c := w8s (List.replicate 32 0)) (c' := w8s S)
          case hgd => rfl
          case ho => rfl
          case hx => kernel_rfl
          case hy => kernel_rfl
          case hg => exact hC5.2.1
          case hi => rw [hsS]; kernel_rfl
          case hz => rw [hsS]; rfl
          case h1 => exact one_w8s _
          simp only [Act.put]
          refine gw_val (by kernel_rfl) (some 9) rfl (.bool ok) (by kernel_rfl) ?_
          simp only [Act.put, List.setIfInBounds_toArray, List.set_cons_succ, List.set_cons_zero]
          apply wpList_nil
          have hA9 : Ab (V5.setRow (w.heap.size + 1) (w8s S)) (w.heap.size + 1) 24 S := setRow_heap _ _ _ _ _ _ hC5.2.1
          have hb9 := belowRow hC5.2.2.2 (by omega : w.heap.size ≤ w.heap.size + 1) (w8s S)
          generalize V5.setRow (w.heap.size + 1) (w8s S) = V9 at *
          clear hC3 hC5 hXA hb5 CI hG hG3 hL3
          go_wp2_with fail
          exact bodyPost_ret (results_cell_tmp (p := 8) (q := 9) (by kernel_rfl) (by kernel_rfl) (by kernel_rfl) hA9 (by kernel_rfl) (by rw [hS]; kernel_rfl)) rfl ⟨rfl, hb9⟩
      · rw [if_neg hik]
        have hd3 : decide ((i : Int) < ((halfN n : Nat) : Int)) = false := decide_eq_false (by omega)
        have hX := climbW_byte A hA hA8 p0.reverse (i - halfN n) (n - halfN n)
        have IH := fun (V : World) (hV : Glob V) (h : Rk V (some ⟨b, off, none⟩) p0) => ih p0 (some ⟨b, off, none⟩) c (i - halfN n) (n - halfN n) V (by omega) (by omega) h hp80 (by omega) (by omega) hV
        rw [hlq] at IH
        rw [show climbW A (i - halfN n) (n - halfN n) p0.reverse = climbX A (i - halfN n) (n - halfN n) p0 from rfl] at hX
        have hXl := hX.1
        have hX8 := hX.2
        have CI := fun V (hV : Glob V) => pinner_any last (climbX A (i - halfN n) (n - halfN n) p0).1 V hV hll hXl hl8 hX8
        generalize (climbX A (i - halfN n) (n - halfN n) p0).1 = X at *
        generalize (climbX A (i - halfN n) (n - halfN n) p0).2 = ok at *
        have hS : (innerL last X).length = 32 := shaL_len _
        generalize innerL last X = S at *
        have hsX : (w8s X).size = 32 := by rw [size_w8s, hXl]
        have hsS : (w8s S).size = 32 := by rw [size_w8s, hS]
        have HS1 : Hid (IntKind.i64.wrap ((i : Int) - ((halfN n : Nat) : Int)) = ((i - halfN n : Nat) : Int)) := Lib.hid (by rw [IntKind.wrap_i64]; omega)
        have HS2 : Hid (IntKind.i64.wrap ((n : Int) - ((halfN n : Nat) : Int)) = ((n - halfN n : Nat) : Int)) := Lib.hid (by rw [IntKind.wrap_i64]; omega)
        generalize halfN n = k at *
        have HM : Hid (m ≤ 1000000) := Lib.hid (by omega)
        have HK : Hid (k < n) := Lib.hid k2
        clear ih hR hb0 hp8 hp80 hX hX8 hl8 hpl hA8 k1 k2 k3
        go_enter Tryd.func27, Tryd.ntmps27
        go_upto_region 5 with fail
        change Code.wp _ _ _ _ ((w.alloc (.cells (w8s A) 24)).alloc (.cells (w8s (List.replicate 32 0)) 24))
        generalize (w.alloc (.cells (w8s A) 24)).alloc (.cells (w8s (List.replicate 32 0)) 24) = W at *
        obtain ⟨gl, hgl⟩ : ∃ gl, gl = W.heap.size := ⟨_, rfl⟩
        have h0 : PL w A (some ⟨b, off, none⟩) (p0 ++ [last]) last gl false false { W with drawn := W.drawn + 1 } := PL.start hC hgl (by simp)
        have LOADP := fun (V : World) (h : CC w A (List.replicate 32 0) (some ⟨b, off, none⟩) (p0 ++ [last]) V) => load_last h hlq hll
        clear hC hgl
        refine wp_region_inv (fun listed a V => ∃ b0 b1 b2 b3 b4 b5 b6 b7 b8 b9 b10 b11 b12 b13 : Bool, listed = #[b0, b1, b2, b3, b4, b5, b6, b7, b8, b9, b10, b11, b12, b13] ∧ a = { tmps := #[.agg (w8s A), .int .i64 i, .int .i64 n, .slice (some ⟨b, off, none⟩) (m + 1) c, .pointer (some ⟨w.heap.size, 0, none⟩), undef, undef, undef, .pointer (some ⟨w.heap.size + 1, 0, none⟩), .bool false, (cond b11 (.pointer (some ⟨gl, 0, none⟩)) undef), (cond b13 (.slice (some ⟨b, off, none⟩) m c) undef), undef, undef, undef, undef, undef, .int .i64 n, .bool false, undef, undef, undef, undef, .slice (some ⟨b, off, none⟩) (m + 1) c, .int .i64 (m + 1 : Nat), .bool false, undef, (cond b0 (.slice (some ⟨b, off, none⟩) (m + 1) c) undef), (cond b1 (.slice (some ⟨b, off, none⟩) (m + 1) c) undef), (cond b2 (.int .i64 (m + 1 : Nat)) undef), (cond b3 (.int .i64 m) undef), (cond b4 (.pointer (some ⟨b, off + m * 32, none⟩)) undef), (cond b5 (.agg (w8s last)) undef), (cond b6 (.slice (some ⟨b, off, none⟩) (m + 1) c) undef), (cond b7 (.slice (some ⟨b, off, none⟩) (m + 1) c) undef), (cond b8 (.int .i64 (m + 1 : Nat)) undef), (cond b9 (.int .i64 m) undef), (cond b10 (.slice (some ⟨b, off, none⟩) m c) undef), undef, undef, undef, undef, undef, undef, undef, undef, undef, undef, undef, undef, undef, undef, undef, undef, undef, undef, undef, undef, undef, undef, undef, undef, undef, undef, undef, undef, undef, undef, undef, undef, undef], defers := [] } ∧ PL w A (some ⟨b, off, none⟩) (p0 ++ [last]) last gl b11 b12 V) (by kernel_rfl) (by kernel_rfl) ?_ ?_ ?_
        · exact ⟨false, false, false, false, false, false, false, false, false, false, false, false, false, false, rfl, rfl, h0⟩
        · intro i listed a V hi hr hJ
          obtain ⟨b0, b1, b2, b3, b4, b5, b6, b7, b8, b9, b10, b11, b12, b13, rfl, rfl, hF⟩ := hJ
          have hi2 : i < 14 := hi
          have hi3 : i = 0 ∨ i = 1 ∨ i = 2 ∨ i = 3 ∨ i = 4 ∨ i = 5 ∨ i = 6 ∨ i = 7 ∨ i = 8 ∨ i = 9 ∨ i = 10 ∨ i = 11 ∨ i = 12 ∨ i = 13 := by omega
          rcases hi3 with rfl | rfl | rfl | rfl | rfl | rfl | rfl | rfl | rfl | rfl | rfl | rfl | rfl | rfl
          · obtain rfl : b0 = false := ready_self hr
            refine st_val rfl (by kernel_rfl) (some 27) rfl (.slice (some ⟨b, off, none⟩) (m + 1) c) V (by kernel_rfl) ?_
            exact ⟨true, b1, b2, b3, b4, b5, b6, b7, b8, b9, b10, b11, b12, b13, rfl, rfl, hF⟩
          · obtain rfl : b1 = false := ready_self hr
            refine st_val rfl (by kernel_rfl) (some 28) rfl (.slice (some ⟨b, off, none⟩) (m + 1) c) V (by kernel_rfl) ?_
            exact ⟨b0, true, b2, b3, b4, b5, b6, b7, b8, b9, b10, b11, b12, b13, rfl, rfl, hF⟩
          · obtain rfl : b2 = false := ready_self hr
            obtain rfl : b1 = true := ready_dep hr 1 (by kernel_rfl)
            refine st_val rfl (by kernel_rfl) (some 29) rfl (.int .i64 (m + 1 : Nat)) V (by kernel_rfl) ?_
            exact ⟨b0, true, true, b3, b4, b5, b6, b7, b8, b9, b10, b11, b12, b13, rfl, rfl, hF⟩
          · obtain rfl : b3 = false := ready_self hr
            obtain rfl : b2 = true := ready_dep hr 2 (by kernel_rfl)
            refine st_val rfl (by kernel_rfl) (some 30) rfl (.int .i64 m) V (sub_one rfl m HM.out (by kernel_rfl) V) ?_
            exact ⟨b0, b1, true, true, b4, b5, b6, b7, b8, b9, b10, b11, b12, b13, rfl, rfl, hF⟩
          · obtain rfl : b4 = false := ready_self hr
            obtain rfl : b0 = true := ready_dep hr 0 (by kernel_rfl)
            obtain rfl : b3 = true := ready_dep hr 3 (by kernel_rfl)
            refine st_val rfl (by kernel_rfl) (some 31) rfl (.pointer (some ⟨b, off + m * 32, none⟩)) V (addr_last b off m c V _ _ rfl (by kernel_rfl) (by kernel_rfl)) ?_
            exact ⟨true, b1, b2, true, true, b5, b6, b7, b8, b9, b10, b11, b12, b13, rfl, rfl, hF⟩
          · obtain rfl : b5 = false := ready_self hr
            obtain rfl : b4 = true := ready_dep hr 4 (by kernel_rfl)
            refine st_load rfl (by kernel_rfl) (some 32) rfl 24 (.tmp 31) rfl ⟨b, off + m * 32, none⟩ (.agg (w8s last)) (by kernel_rfl) (LOADP V hF.1) ?_
            exact ⟨b0, b1, b2, b3, true, true, b6, b7, b8, b9, b10, b11, b12, b13, rfl, rfl, hF⟩
          · obtain rfl : b6 = false := ready_self hr
            refine st_val rfl (by kernel_rfl) (some 33) rfl (.slice (some ⟨b, off, none⟩) (m + 1) c) V (by kernel_rfl) ?_
            exact ⟨b0, b1, b2, b3, b4, b5, true, b7, b8, b9, b10, b11, b12, b13, rfl, rfl, hF⟩
          · obtain rfl : b7 = false := ready_self hr
            refine st_val rfl (by kernel_rfl) (some 34) rfl (.slice (some ⟨b, off, none⟩) (m + 1) c) V (by kernel_rfl) ?_
            exact ⟨b0, b1, b2, b3, b4, b5, b6, true, b8, b9, b10, b11, b12, b13, rfl, rfl, hF⟩
          · obtain rfl : b8 = false := ready_self hr
            obtain rfl : b7 = true := ready_dep hr 7 (by kernel_rfl)
            refine st_val rfl (by kernel_rfl) (some 35) rfl (.int .i64 (m + 1 : Nat)) V (by kernel_rfl) ?_
            exact ⟨b0, b1, b2, b3, b4, b5, b6, true, true, b9, b10, b11, b12, b13, rfl, rfl, hF⟩
          · obtain rfl : b9 = false := ready_self hr
            obtain rfl : b8 = true := ready_dep hr 8 (by kernel_rfl)
            refine st_val rfl (by kernel_rfl) (some 36) rfl (.int .i64 m) V (sub_one rfl m HM.out (by kernel_rfl) V) ?_
            exact ⟨b0, b1, b2, b3, b4, b5, b6, b7, true, true, b10, b11, b12, b13, rfl, rfl, hF⟩
          · obtain rfl : b10 = false := ready_self hr
            obtain rfl : b6 = true := ready_dep hr 6 (by kernel_rfl)
            obtain rfl : b9 = true := ready_dep hr 9 (by kernel_rfl)
            refine st_slice_to rfl (by kernel_rfl) (some 37) rfl 35 (.tmp 33) (.tmp 36) rfl (.slice (some ⟨b, off, none⟩) (m + 1) c) (.int .i64 m) (.slice (some ⟨b, off, none⟩) m c) (by kernel_rfl) (by kernel_rfl) (hts V) ?_
            exact ⟨b0, b1, b2, b3, b4, b5, true, b7, b8, true, true, b11, b12, b13, rfl, rfl, hF⟩
          · obtain rfl : b11 = false := ready_self hr
            obtain ⟨hF1, hF2, hF3, hF4, hF5⟩ := hF
            have hgV := hF2 rfl
            rw [← hgV]
            refine st_val rfl (by kernel_rfl) (some 10) rfl (.pointer (some ⟨V.heap.size, 0, none⟩)) (V.alloc (.cells (w8s (List.replicate 32 0)) 24)) (by kernel_rfl) ?_
            rw [hgV]
            exact ⟨b0, b1, b2, b3, b4, b5, b6, b7, b8, b9, b10, true, b12, b13, rfl, rfl, PL.made hF1 hgV hF5 (by cases b12; rfl; exact absurd (hF4 rfl) (by decide))⟩
          · obtain rfl : b12 = false := ready_self hr
            obtain rfl : b5 = true := ready_dep hr 5 (by kernel_rfl)
            obtain rfl : b11 = true := ready_dep hr 11 (by kernel_rfl)
            refine st_store rfl (by kernel_rfl) rfl 24 (.tmp 10) (.tmp 32) rfl gl (w8s (List.replicate 32 0)) (w8s last) (by kernel_rfl) (by kernel_rfl) (hF.2.2.1 rfl) (by rw [hsL]; kernel_rfl) (by rw [hsL]; rfl) (one_w8s _) ?_
            exact ⟨b0, b1, b2, b3, b4, true, b6, b7, b8, b9, b10, true, true, b13, rfl, rfl, PL.stored hF hll⟩
          · obtain rfl : b13 = false := ready_self hr
            obtain rfl : b0 = true := ready_dep hr 0 (by kernel_rfl)
            obtain rfl : b1 = true := ready_dep hr 1 (by kernel_rfl)
            obtain rfl : b2 = true := ready_dep hr 2 (by kernel_rfl)
            obtain rfl : b3 = true := ready_dep hr 3 (by kernel_rfl)
            obtain rfl : b4 = true := ready_dep hr 4 (by kernel_rfl)
            obtain rfl : b5 = true := ready_dep hr 5 (by kernel_rfl)
            obtain rfl : b6 = true := ready_dep hr 6 (by kernel_rfl)
            obtain rfl : b7 = true := ready_dep hr 7 (by kernel_rfl)
            obtain rfl : b8 = true := ready_dep hr 8 (by kernel_rfl)
            obtain rfl : b9 = true := ready_dep hr 9 (by kernel_rfl)
            obtain rfl : b10 = true := ready_dep hr 10 (by kernel_rfl)
            obtain rfl : b11 = true := ready_dep hr 11 (by kernel_rfl)
            obtain rfl : b12 = true := ready_dep hr 12 (by kernel_rfl)
            refine st_val rfl (by kernel_rfl) (some 11) rfl (.slice (some ⟨b, off, none⟩) m c) V (by kernel_rfl) ?_
            exact ⟨true, true, true, true, true, true, true, true, true, true, true, true, true, true, rfl, rfl, hF⟩
        · intro a V hJ
          obtain ⟨b0, b1, b2, b3, b4, b5, b6, b7, b8, b9, b10, b11, b12, b13, he, rfl, hF⟩ := hJ
          have he : (#[true, true, true, true, true, true, true, true, true, true, true, true, true, true] : Array Bool) = #[b0, b1, b2, b3, b4, b5, b6, b7, b8, b9, b10, b11, b12, b13] := he
          simp only [Array.mk.injEq, List.cons.injEq, and_true] at he
          obtain ⟨rfl, rfl, rfl, rfl, rfl, rfl, rfl, rfl, rfl, rfl, rfl, rfl, rfl, rfl⟩ := he
          simp only [cond_true]
          obtain ⟨hC, hLA, hGV⟩ := PL.fin hG hF
          clear hF h0 LOADP he
          go_upto_region 10 with (go_at_call 23; refine (CH _).mono ?_; rintro e w1 ⟨rfl, rfl⟩)
          apply wp_region_lit
          refine gw_load (by kernel_rfl) (some 56) rfl 24 (.tmp 4) rfl ⟨w.heap.size, 0, none⟩ (.agg (w8s A)) (by kernel_rfl) (load_key hC.1 hA) ?_
          simp only [Act.put, List.setIfInBounds_toArray, List.set_cons_succ, List.set_cons_zero]
          refine gw_val (by kernel_rfl) (some 57) rfl (.int .i64 i) (by kernel_rfl) ?_
          simp only [Act.put, List.setIfInBounds_toArray, List.set_cons_succ, List.set_cons_zero]
          refine gw_val (by kernel_rfl) (some 58) rfl (.int .i64 k) (by kernel_rfl) ?_
          simp only [Act.put, List.setIfInBounds_toArray, List.set_cons_succ, List.set_cons_zero]
          refine gw_val (by kernel_rfl) (some 59) rfl (.int .i64 (IntKind.i64.wrap ((i : Int) - (k : Int)))) (by kernel_rfl) ?_
          simp only [Act.put, List.setIfInBounds_toArray, List.set_cons_succ, List.set_cons_zero]
          rw [HS1.out]
          refine gw_val (by kernel_rfl) (some 60) rfl (.int .i64 n) (by kernel_rfl) ?_
          simp only [Act.put, List.setIfInBounds_toArray, List.set_cons_succ, List.set_cons_zero]
          refine gw_val (by kernel_rfl) (some 61) rfl (.int .i64 k) (by kernel_rfl) ?_
          simp only [Act.put, List.setIfInBounds_toArray, List.set_cons_succ, List.set_cons_zero]
          refine gw_val (by kernel_rfl) (some 62) rfl (.int .i64 (IntKind.i64.wrap ((n : Int) - (k : Int)))) (by kernel_rfl) ?_
          simp only [Act.put, List.setIfInBounds_toArray, List.set_cons_succ, List.set_cons_zero]
          rw [HS2.out]
          refine gw_val (by kernel_rfl) (some 63) rfl (.slice (some ⟨b, off, none⟩) m c) (by kernel_rfl) ?_
          simp only [Act.put, List.setIfInBounds_toArray, List.set_cons_succ, List.set_cons_zero]
          refine gw_call (by kernel_rfl) (some 64) rfl 27 #[.agg (w8s A), .int .i64 (i - k : Nat), .int .i64 (n - k : Nat), .slice (some ⟨b, off, none⟩) m c] (.tuple #[.agg (w8s X), .bool ok]) (Below V.heap.size V) (by kernel_rfl) (IH V hGV (hRp V hC.2.2.1)) (fun V2 hb2 => ?_)
          have hC2 := hC.below hb2
          have hL2 := hLA.below hLA.lt hb2
          simp only [Act.put, List.setIfInBounds_toArray, List.set_cons_succ, List.set_cons_zero]
          refine gw_val (by kernel_rfl) (some 55) rfl (.tuple #[.agg (w8s X), .bool ok]) (by kernel_rfl) ?_
          simp only [Act.put, List.setIfInBounds_toArray, List.set_cons_succ, List.set_cons_zero]
          refine gw_val (by kernel_rfl) (some 65) rfl (.agg (w8s X)) (by kernel_rfl) ?_
          simp only [Act.put, List.setIfInBounds_toArray, List.set_cons_succ, List.set_cons_zero]
          refine gw_val (by kernel_rfl) (some 66) rfl (.bool ok) (by kernel_rfl) ?_
          simp only [Act.put, List.setIfInBounds_toArray, List.set_cons_succ, List.set_cons_zero]
          refine run_to rfl (some 15) rfl (.pointer (some ⟨V2.heap.size, 0, none⟩)) (V2.alloc (.cells (w8s (List.replicate 32 0)) 24)) (by kernel_rfl) ?_
          simp only [Act.put, List.setIfInBounds_toArray, List.set_cons_succ, List.set_cons_zero]
          apply wpList_store_new (w := V2) (ty := 24) (x := .tmp 15) (y := .tmp 65) (c := w8s (List.replicate 32 0)) (c' := w8s X)
          case hgd => rfl
          case ho => rfl
          case hx => kernel_rfl
          case hy => kernel_rfl
          case hi => rw [hsX]; kernel_rfl
          case hz => rw [hsX]; rfl
          case h1 => exact one_w8s _
          simp only [Act.put]
          refine gw_val (by kernel_rfl) (some 16) rfl (.bool ok) (by kernel_rfl) ?_
          simp only [Act.put, List.setIfInBounds_toArray, List.set_cons_succ, List.set_cons_zero]
          apply wpList_nil
          have hXA : Ab (V2.alloc (.cells (w8s X) 24)) V2.heap.size 24 X := heap_alloc_last _ _
          have hbA : Below V2.heap.size V2 (V2.alloc (.cells (w8s X) 24)) := (Below.refl _ V2).alloc (Nat.le_refl _) _
          have hC3 := hC2.below hbA
          have hL3 := hL2.below hL2.lt hbA
          generalize V2.alloc (.cells (w8s X) 24) = V3 at *
          generalize V2.heap.size = gx at *
          clear hC hC2 hL2 hb2 hbA hLA IH hRp CH hGV
          have hG3 := hG.below hG.size hC3.2.2.2
          go_upto_region 11 with fail
          apply wp_region_lit
          refine gw_load (by kernel_rfl) (some 67) rfl 24 (.tmp 10) rfl ⟨gl, 0, none⟩ (.agg (w8s last)) (by kernel_rfl) (load_key hL3 hll) ?_
          simp only [Act.put, List.setIfInBounds_toArray, List.set_cons_succ, List.set_cons_zero]
          refine gw_load (by kernel_rfl) (some 68) rfl 24 (.tmp 15) rfl ⟨gx, 0, none⟩ (.agg (w8s X)) (by kernel_rfl) (load_key hXA hXl) ?_
          simp only [Act.put, List.setIfInBounds_toArray, List.set_cons_succ, List.set_cons_zero]
          refine gw_call (by kernel_rfl) (some 69) rfl 12 #[.agg (w8s last), .agg (w8s X)] (.agg (w8s S)) (Below V3.heap.size V3) (by kernel_rfl) (CI V3 hG3) (fun V5 hb5 => ?_)
          have hC5 := hC3.below hb5
          simp only [Act.put, List.setIfInBounds_toArray, List.set_cons_succ, List.set_cons_zero]
          refine gw_val (by kernel_rfl) (some 70) rfl (.bool ok) (by kernel_rfl) ?_
          simp only [Act.put, List.setIfInBounds_toArray, List.set_cons_succ, List.set_cons_zero]
          apply wpList_store_at (ty := 24) (x := .tmp 8) (y := .tmp 69) (g := w.heap.size + 1) (c := w8s (List.replicate 32 0)) (c' := w8s S)
          case hgd => rfl
          case ho => rfl
          case hx => kernel_rfl
          case hy => kernel_rfl
          case hg => exact hC5.2.1
          case hi => rw [hsS]; kernel_rfl
          case hz => rw [hsS]; rfl
          case h1 => exact one_w8s _
          simp only [Act.put]
          refine gw_val (by kernel_rfl) (some 9) rfl (.bool ok) (by kernel_rfl) ?_
          simp only [Act.put, List.setIfInBounds_toArray, List.set_cons_succ, List.set_cons_zero]
          apply wpList_nil
          have hA9 : Ab (V5.setRow (w.heap.size + 1) (w8s S)) (w.heap.size + 1) 24 S := setRow_heap _ _ _ _ _ _ hC5.2.1
          have hb9 := belowRow hC5.2.2.2 (by omega : w.heap.size ≤ w.heap.size + 1) (w8s S)
          generalize V5.setRow (w.heap.size + 1) (w8s S) = V9 at *
          clear hC3 hC5 hXA hb5 CI hG hG3 hL3
          go_wp2_with fail
          exact bodyPost_ret (results_cell_tmp (p := 8) (q := 9) (by kernel_rfl) (by kernel_rfl) (by kernel_rfl) hA9 (by kernel_rfl) (by rw [hS]; kernel_rfl)) rfl ⟨rfl, hb9⟩

theorem pclimb_any (p : List (List Int)) (al : Option Addr) (c i n : Nat) (A : List Int) (w : World) (hG : Glob w) (hA : A.length = 32) (hA8 : ∀ x, x ∈ A → W8 x) (hp8 : ∀ k ∈ p, ∀ x, x ∈ k → W8 x) (hn : n ≤ 1000000) (hi : i < n) (hpl : p.length ≤ 1000) (hc : p.length ≤ c) (hR : Rk w al p) :
    Calls Tryd.prog 27 #[.agg (w8s A), .int .i64 i, .int .i64 n, .slice al p.length c] w fun e w' => e = .returned (.tuple #[.agg (w8s (climbX A i n p).1), .bool (climbX A i n p).2]) ∧ Below w.heap.size w w' := by
  have h : ∀ m, ∀ (p : List (List Int)) (al : Option Addr) (c i n : Nat) (w : World), p.length ≤ m → p.length ≤ 1000 → p.length ≤ c → Rk w al p → (∀ k ∈ p, ∀ x, x ∈ k → W8 x) → n ≤ 1000000 → i < n → Glob w →
      Calls Tryd.prog 27 #[.agg (w8s A), .int .i64 i, .int .i64 n, .slice al p.length c] w fun e w' => e = .returned (.tuple #[.agg (w8s (climbX A i n p).1), .bool (climbX A i n p).2]) ∧ Below w.heap.size w w' := by
    intro m
    induction m with
    | zero => exact fun p al c i n w hm hpl hc hR hp8 hn hi hG => pclimb_step p al c i n A w hG hA hA8 hp8 hn hi hpl hc hR (fun p2 _ _ _ _ _ hl _ _ _ _ _ _ => by omega)
    | succ m ih => exact fun p al c i n w hm hpl hc hR hp8 hn hi hG => pclimb_step p al c i n A w hG hA hA8 hp8 hn hi hpl hc hR (fun p2 al2 c2 i2 n2 w2 hl hc2 hR2 hp82 hn2 hi2 hG2 => ih p2 al2 c2 i2 n2 w2 (by omega) (by omega) hc2 hR2 hp82 hn2 hi2 hG2)
  exact h p.length p al c i n w (Nat.le_refl _) hpl hc hR hp8 hn hi hG

set_option maxRecDepth 100000 in
set_option maxHeartbeats 8000000 in
theorem pver_any : VerC 19 := by
  intro R B la lc i n al c p w hG hR hR8 hS hlc h8 hB hi0 hi1 hn0 hn hp8 hpl hc hK
  have hb0 : Below w.heap.size w (w.alloc (.cells (w8s R) 24)) := (Below.refl _ w).alloc (by simp) _
  have hA0 : Ab (w.alloc (.cells (w8s R) 24)) w.heap.size 24 R := heap_alloc_last w _
  by_cases h0 : i < 0
  · rw [verL_out R B i n p (.inl h0)]
    have hd : decide (i < 0) = true := decide_eq_true h0
    generalize p.length = m at *
    generalize B.length = bl at *
    go_enter Tryd.func19, Tryd.ntmps19
    go_upto_region 1 with fail
    change Code.wp _ _ _ _ (w.alloc (.cells (w8s R) 24))
    generalize w.alloc (.cells (w8s R) 24) = W at *
    go_wp2_with fail
    go_ret
    exact ⟨rfl, hb0⟩
  · have hd : decide (i < 0) = false := decide_eq_false h0
    by_cases h1 : n ≤ i
    · rw [verL_out R B i n p (.inr h1)]
      have hd2 : decide (n ≤ i) = true := decide_eq_true h1
      generalize p.length = m at *
      generalize B.length = bl at *
      go_enter Tryd.func19, Tryd.ntmps19
      go_upto_region 1 with fail
      change Code.wp _ _ _ _ (w.alloc (.cells (w8s R) 24))
      generalize w.alloc (.cells (w8s R) 24) = W at *
      go_wp2_with fail
      go_ret
      exact ⟨rfl, hb0⟩
    · have hd2 : decide (n ≤ i) = false := decide_eq_false h1
      obtain ⟨i, rfl⟩ := Int.eq_ofNat_of_zero_le (show 0 ≤ i by omega)
      obtain ⟨n, rfl⟩ := Int.eq_ofNat_of_zero_le (show 0 ≤ n by omega)
      have hin : i < n := by omega
      have hn9 : n ≤ 1000000 := by omega
      rw [verL_climb R B i n p hin]
      have hlf : (leafL B).length = 32 := shaL_len _
      have hlf8 : ∀ x, x ∈ leafL B → W8 x := shaL_byte _
      have CL := fun V (hV : Glob V) (h : Sl V la lc B) => pleaf_any B la lc V hV h hlc h8 hB
      have hXb := climbW_byte (leafL B) hlf hlf8 p.reverse i n
      have CC := fun V (hV : Glob V) (h : Rk V al p) => pclimb_any p al c i n (leafL B) V hV hlf hlf8 hp8 hn9 hin hpl hc h
      rw [show climbW (leafL B) i n p.reverse = climbX (leafL B) i n p from rfl] at hXb
      have hXl := hXb.1
      generalize leafL B = F at *
      generalize (climbX F i n p).1 = X at *
      generalize hok : (climbX F i n p).2 = ok at *
      have hS0 := sl_below hS hb0
      have hK0 := hK.below hb0
      have hG0 := hG.below hG.size hb0
      have hsX : (w8s X).size = 32 := by rw [size_w8s, hXl]
      generalize p.length = m at *
      generalize B.length = bl at *
      clear hok hXb hlf8 hp8 h8 hS hK
      go_enter Tryd.func19, Tryd.ntmps19
      go_upto_region 3 with fail
      change Code.wp _ _ _ _ (w.alloc (.cells (w8s R) 24))
      generalize w.alloc (.cells (w8s R) 24) = W at *
      apply wp_region_lit
      refine gw_val (by kernel_rfl) (some 21) rfl (.slice la bl lc) (by kernel_rfl) ?_
      simp only [Act.put, List.setIfInBounds_toArray, List.set_cons_succ, List.set_cons_zero]
      refine gw_call (by kernel_rfl) (some 22) rfl 14 #[.slice la bl lc] (.agg (w8s F)) (Below W.heap.size W) (by kernel_rfl) (CL W hG0 hS0) (fun V1 hb1 => ?_)
      have hA1 := hA0.below hA0.lt hb1
      have hbw1 := hb0.trans (hb1.mono hb0.size)
      have hK1 := hK0.below hb1
      have hG1 := hG.below hG.size hbw1
      simp only [Act.put, List.setIfInBounds_toArray, List.set_cons_succ, List.set_cons_zero]
      refine gw_val (by kernel_rfl) (some 23) rfl (.int .i64 i) (by kernel_rfl) ?_
      simp only [Act.put, List.setIfInBounds_toArray, List.set_cons_succ, List.set_cons_zero]
      refine gw_val (by kernel_rfl) (some 24) rfl (.int .i64 n) (by kernel_rfl) ?_
      simp only [Act.put, List.setIfInBounds_toArray, List.set_cons_succ, List.set_cons_zero]
      refine gw_val (by kernel_rfl) (some 25) rfl (.slice al m c) (by kernel_rfl) ?_
      simp only [Act.put, List.setIfInBounds_toArray, List.set_cons_succ, List.set_cons_zero]
      refine gw_call (by kernel_rfl) (some 26) rfl 27 #[.agg (w8s F), .int .i64 i, .int .i64 n, .slice al m c] (.tuple #[.agg (w8s X), .bool ok]) (Below V1.heap.size V1) (by kernel_rfl) (CC V1 hG1 hK1) (fun V2 hb2 => ?_)
      have hA2 := hA1.below hA1.lt hb2
      have hbw2 := hbw1.trans (hb2.mono hbw1.size)
      simp only [Act.put, List.setIfInBounds_toArray, List.set_cons_succ, List.set_cons_zero]
      refine gw_val (by kernel_rfl) (some 20) rfl (.tuple #[.agg (w8s X), .bool ok]) (by kernel_rfl) ?_
      simp only [Act.put, List.setIfInBounds_toArray, List.set_cons_succ, List.set_cons_zero]
      refine gw_val (by kernel_rfl) (some 27) rfl (.agg (w8s X)) (by kernel_rfl) ?_
      simp only [Act.put, List.setIfInBounds_toArray, List.set_cons_succ, List.set_cons_zero]
      refine gw_val (by kernel_rfl) (some 28) rfl (.bool ok) (by kernel_rfl) ?_
      simp only [Act.put, List.setIfInBounds_toArray, List.set_cons_succ, List.set_cons_zero]
      refine run_to rfl (some 11) rfl (.pointer (some ⟨V2.heap.size, 0, none⟩)) (V2.alloc (.cells (w8s (List.replicate 32 0)) 24)) (by kernel_rfl) ?_
      simp only [Act.put, List.setIfInBounds_toArray, List.set_cons_succ, List.set_cons_zero]
      apply wpList_store_new (w := V2) (ty := 24) (x := .tmp 11) (y := .tmp 27) (c := w8s (List.replicate 32 0)) (c' := w8s X)
      case hgd => rfl
      case ho => rfl
      case hx => kernel_rfl
      case hy => kernel_rfl
      case hi => rw [hsX]; kernel_rfl
      case hz => rw [hsX]; rfl
      case h1 => exact one_w8s _
      simp only [Act.put]
      refine gw_val (by kernel_rfl) (some 12) rfl (.bool ok) (by kernel_rfl) ?_
      simp only [Act.put, List.setIfInBounds_toArray, List.set_cons_succ, List.set_cons_zero]
      apply wpList_nil
      have hXA : Ab (V2.alloc (.cells (w8s X) 24)) V2.heap.size 24 X := heap_alloc_last _ _
      have hA3 := hA2.alloc (.cells (w8s X) 24)
      have hbw3 := hbw2.alloc hbw2.size (.cells (w8s X) 24)
      generalize V2.alloc (.cells (w8s X) 24) = V3 at *
      generalize V2.heap.size = gx at *
      clear hA0 hb0 hb1 hb2 hbw1 hbw2 hA1 hA2 hK0 hK1 hS0 CL CC hG0 hG1 hG
      go_upto_region 4 with fail
      apply wp_region_lit
      refine gw_val (by kernel_rfl) (some 29) rfl (.bool ok) (by kernel_rfl) ?_
      simp only [Act.put, List.setIfInBounds_toArray, List.set_cons_succ, List.set_cons_zero]
      refine gw_val (by kernel_rfl) (some 30) rfl (.bool ok) (by kernel_rfl) ?_
      simp only [Act.put, List.setIfInBounds_toArray, List.set_cons_succ, List.set_cons_zero]
      cases ok
      · refine gw_not (by kernel_rfl) (some 31) rfl ?_
        simp only [Act.put, List.setIfInBounds_toArray, List.set_cons_succ, List.set_cons_zero]
        refine gw_not (by kernel_rfl) (some 32) rfl ?_
        simp only [Act.put, List.setIfInBounds_toArray, List.set_cons_succ, List.set_cons_zero]
        refine gw_not (by kernel_rfl) (some 33) rfl ?_
        simp only [Act.put, List.setIfInBounds_toArray, List.set_cons_succ, List.set_cons_zero]
        refine gw_val (by kernel_rfl) (some 34) rfl (.bool false) (by kernel_rfl) ?_
        simp only [Act.put, List.setIfInBounds_toArray, List.set_cons_succ, List.set_cons_zero]
        refine gw_val (by kernel_rfl) (some 10) rfl (.bool false) (by kernel_rfl) ?_
        simp only [Act.put, List.setIfInBounds_toArray, List.set_cons_succ, List.set_cons_zero]
        apply wpList_nil
        go_wp2_with fail
        go_ret
        exact ⟨rfl, hbw3⟩
      · refine gw_load (by kernel_rfl) (some 31) rfl 24 (.tmp 11) rfl ⟨gx, 0, none⟩ (.agg (w8s X)) (by kernel_rfl) (load_key hXA hXl) ?_
        simp only [Act.put, List.setIfInBounds_toArray, List.set_cons_succ, List.set_cons_zero]
        refine gw_load (by kernel_rfl) (some 32) rfl 24 (.tmp 5) rfl ⟨w.heap.size, 0, none⟩ (.agg (w8s R)) (by kernel_rfl) (load_key hA3 hR) ?_
        simp only [Act.put, List.setIfInBounds_toArray, List.set_cons_succ, List.set_cons_zero]
        refine gw_val (by kernel_rfl) (some 33) rfl (.bool (X == R)) (eq_key rfl X R hXl hR (by kernel_rfl) (by kernel_rfl) _) ?_
        simp only [Act.put, List.setIfInBounds_toArray, List.set_cons_succ, List.set_cons_zero]
        refine gw_val (by kernel_rfl) (some 34) rfl (.bool (X == R)) (by kernel_rfl) ?_
        simp only [Act.put, List.setIfInBounds_toArray, List.set_cons_succ, List.set_cons_zero]
        refine gw_val (by kernel_rfl) (some 10) rfl (.bool (X == R)) (by kernel_rfl) ?_
        simp only [Act.put, List.setIfInBounds_toArray, List.set_cons_succ, List.set_cons_zero]
        apply wpList_nil
        go_wp2_with fail
        go_ret
        exact ⟨rfl, hbw3⟩
end Go.Proofs.YtbhnbcpllhefgaaDoor
