/-
  The contract of the reference's climb.
-/
import Derived.Test.YtbhnbcpllhefgaaDoorMR4
namespace Go.Proofs.YtbhnbcpllhefgaaDoor
open Go.RowKit

/-- What climb returns, to the byte: the key, and whether the length was right. The path backwards. -/
def climbW (leaf : List Int) : Nat → Nat → List (List Int) → List Int × Bool
  | _, n, [] => if n = 1 then (leaf, true) else (List.replicate 32 0, false)
  | i, n, last :: r => if n = 1 then (leaf, false) else if i < halfN n then (innerL (climbW leaf i (halfN n) r).1 last, (climbW leaf i (halfN n) r).2) else (innerL last (climbW leaf (i - halfN n) (n - halfN n) r).1, (climbW leaf (i - halfN n) (n - halfN n) r).2)
def climbX (leaf : List Int) (i n : Nat) (p : List (List Int)) : List Int × Bool := climbW leaf i n p.reverse
theorem climbX_one (leaf : List Int) (i : Nat) (p : List (List Int)) : climbX leaf i 1 p = (leaf, decide (p.length = 0)) := by
  unfold climbX
  cases h : p.reverse with
  | nil =>
    have : p = [] := by simpa using h
    rw [climbW, if_pos rfl, this]
    rfl
  | cons x r =>
    have : p.length ≠ 0 := by
      intro h0
      have hr : p.reverse.length = 0 := by rw [List.length_reverse]; exact h0
      rw [h] at hr
      simp at hr
    rw [climbW, if_pos rfl, decide_eq_false this]
theorem climbX_nil (leaf : List Int) (i n : Nat) (h : n ≠ 1) : climbX leaf i n [] = (List.replicate 32 0, false) := by
  unfold climbX
  rw [List.reverse_nil, climbW, if_neg h]
theorem climbX_snoc (leaf : List Int) (i n : Nat) (p : List (List Int)) (last : List Int) (h : n ≠ 1) : climbX leaf i n (p ++ [last]) = if i < halfN n then (innerL (climbX leaf i (halfN n) p).1 last, (climbX leaf i (halfN n) p).2) else (innerL last (climbX leaf (i - halfN n) (n - halfN n) p).1, (climbX leaf (i - halfN n) (n - halfN n) p).2) := by
  unfold climbX
  rw [List.reverse_append]
  show climbW leaf i n (last :: p.reverse) = _
  rw [climbW, if_neg h]
theorem climbX_climbL (leaf : List Int) : ∀ (r : List (List Int)) (i n : Nat), climbR leaf i n r = if (climbW leaf i n r).2 = true then some (climbW leaf i n r).1 else none
  | [], i, n => by
    rw [climbR, climbW]
    split <;> rfl
  | x :: r, i, n => by
    rw [climbR, climbW]
    by_cases h : n = 1
    · rw [if_pos h, if_pos h]
      rfl
    · rw [if_neg h, if_neg h]
      split
      · rw [climbX_climbL leaf r i (halfN n)]
        simp only
        split <;> rfl
      · rw [climbX_climbL leaf r (i - halfN n) (n - halfN n)]
        simp only
        split <;> rfl
theorem climbW_byte (leaf : List Int) (hl : leaf.length = 32) (h8 : ∀ x, x ∈ leaf → W8 x) : ∀ (r : List (List Int)) (i n : Nat), (climbW leaf i n r).1.length = 32 ∧ ∀ x, x ∈ (climbW leaf i n r).1 → W8 x
  | [], i, n => by
    rw [climbW]
    split
    · exact ⟨hl, h8⟩
    · refine ⟨rfl, fun x hx => ?_⟩
      obtain rfl := List.eq_of_mem_replicate hx
      exact ⟨by omega, by omega⟩
  | x :: r, i, n => by
    rw [climbW]
    split
    · exact ⟨hl, h8⟩
    · split
      · exact ⟨shaL_len _, shaL_byte _⟩
      · exact ⟨shaL_len _, shaL_byte _⟩
theorem results_cell_tmp {P : Program} {fn : Func} {tmps : Array Value} {w : World} {p q g t : Nat} {v : Value} {K : List Int} (hr : fn.results = #[.cell p 24, .tmp q]) (h2 : tmps.getD p undef = .pointer (some ⟨g, 0, none⟩)) (h3 : tmps.getD q undef = v)
    (hA : Ab w g t K) (hu : P.underlying 24 = some (.array 32 5)) (hi : (P.info? 24).map (·.size) = some K.length) : (results fn tmps).run P w = .ok (.tuple #[.agg (w8s K), v]) w := by
  have hl := run_loadVar_row (P := P) w g t 24 (w8s K) (0, 0) (.array 32 5) hA hu rfl (by rw [hi]; simp)
  unfold results
  rw [hr]
  have h2' : tmps[p]?.getD undef = .pointer (some ⟨g, 0, none⟩) := by simpa using h2
  have h3' : tmps[q]?.getD undef = v := by simpa using h3
  simp [h2', h3', asAddr, hl, Result.andThen]

theorem eq_zero {ρ : Operand → Value} {o : Oper} {x : Operand} (ho : o.op = .binOp .eql 3 x (.const (.int .i64 0)) 3) (m : Nat) (hx : ρ x = .int .i64 m) (w : World) (hρ : ρ (.const (.int .i64 0)) = .int .i64 0 := by rfl) : (execOp ρ o).run Tryd.prog w = .ok (.value (.bool (decide (m = 0)))) w := by
  unfold execOp
  simp only [ho, hx, hρ]
  by_cases h : m = 0
  · subst h
    simp [go_sem]
  · have : ((m : Nat) : Int) ≠ 0 := by omega
    simp [go_sem, h]
/-- What a call of climb keeps: its leaf, its result, its path. -/
def CC (w : World) (A Z : List Int) (al : Option Addr) (p : List (List Int)) (V : World) : Prop := Ab V w.heap.size 24 A ∧ Ab V (w.heap.size + 1) 24 Z ∧ Rk V al p ∧ Below w.heap.size w V
theorem CC.below {w V V' : World} {A Z : List Int} {al : Option Addr} {p : List (List Int)} (h : CC w A Z al p V) (hb : Below V.heap.size V V') : CC w A Z al p V' := ⟨h.1.below h.1.lt hb, h.2.1.below h.2.1.lt hb, h.2.2.1.below hb, h.2.2.2.trans (hb.mono h.2.2.2.size)⟩

/-- What the region keeps that climbs on: all that lies below B. -/
def CD (w : World) (A Z : List Int) (al : Option Addr) (p : List (List Int)) (gl : Nat) (last : List Int) (B : Nat) (V : World) : Prop :=
  CC w A Z al p V ∧ Ab V gl 24 last ∧ B ≤ V.heap.size ∧ w.heap.size + 2 ≤ B ∧ gl < B ∧ ∀ x, al = some x → x.block < B
theorem CD.low {w V V' : World} {A Z : List Int} {al : Option Addr} {p : List (List Int)} {gl B : Nat} {last : List Int} (h : CD w A Z al p gl last B V) (hb : Below B V V') : CD w A Z al p gl last B V' := by
  obtain ⟨⟨a, z, r, bw⟩, l, hB, h2, h3, h4⟩ := h
  refine ⟨⟨a.below (by omega) hb, z.below (by omega) hb, fun i hi => ?_, bw.trans (hb.mono (by omega))⟩, l.below (by omega) hb, Nat.le_trans hB hb.size, h2, h3, h4⟩
  obtain ⟨b, off, e, hlt, hr, hl⟩ := r i hi
  have hbB : b < B := h4 _ e
  exact ⟨b, off, e, Nat.lt_of_lt_of_le hlt hb.size, fun j v hv => (hb.cell (p := ⟨b, off + i * 32 + j, none⟩) hbB).trans (hr j v hv), hl⟩
theorem CD.alloc {w V : World} {A Z : List Int} {al : Option Addr} {p : List (List Int)} {gl B : Nat} {last : List Int} (h : CD w A Z al p gl last B V) (o : Obj) : CD w A Z al p gl last B (V.alloc o) := h.low ((Below.refl B V).alloc h.2.2.1 o)
theorem CD.cells {w V : World} {A Z : List Int} {al : Option Addr} {p : List (List Int)} {gl B : Nat} {last : List Int} (h : CD w A Z al p gl last B V) (g : Nat) (hg : B ≤ g) (vs : List Value) : CD w A Z al p gl last B (V.setCells g 0 vs) := h.low ((But.setCells vs 0 V).below hg)

set_option maxRecDepth 100000 in
set_option maxHeartbeats 8000000 in
theorem refclimb_step (p : List (List Int)) (al : Option Addr) (c i n : Nat) (A : List Int) (w : World) (hA : A.length = 32) (hA8 : ∀ x, x ∈ A → W8 x) (hp8 : ∀ k ∈ p, ∀ x, x ∈ k → W8 x) (hn : n ≤ 1000000) (hi : i < n) (hpl : p.length ≤ 1000) (hc : p.length ≤ c) (hR : Rk w al p)
    (ih : ∀ (p2 : List (List Int)) (al2 : Option Addr) (c2 i2 n2 : Nat) (w2 : World), p2.length < p.length → p2.length ≤ c2 → Rk w2 al2 p2 → (∀ k ∈ p2, ∀ x, x ∈ k → W8 x) → n2 ≤ 1000000 → i2 < n2 → Calls Tryd.prog 28 #[.agg (w8s A), .int .i64 i2, .int .i64 n2, .slice al2 p2.length c2] w2 fun e w' => e = .returned (.tuple #[.agg (w8s (climbX A i2 n2 p2).1), .bool (climbX A i2 n2 p2).2]) ∧ Below w2.heap.size w2 w') :
    Calls Tryd.prog 28 #[.agg (w8s A), .int .i64 i, .int .i64 n, .slice al p.length c] w fun e w' => e = .returned (.tuple #[.agg (w8s (climbX A i n p).1), .bool (climbX A i n p).2]) ∧ Below w.heap.size w w' := by
  have hb0 : Below w.heap.size w ((w.alloc (.cells (w8s A) 24)).alloc (.cells (w8s (List.replicate 32 0)) 24)) := ((Below.refl _ w).alloc (by simp) _).alloc (by simp) _
  have hC : CC w A (List.replicate 32 0) al p ((w.alloc (.cells (w8s A) 24)).alloc (.cells (w8s (List.replicate 32 0)) 24)) := by
    refine ⟨Ab.alloc (heap_alloc_last w _) _, ?_, hR.below hb0, hb0⟩
    have := heap_alloc_last (w.alloc (.cells (w8s A) 24)) (.cells (w8s (List.replicate 32 0)) 24)
    simpa [Ab] using this
  have hsA : (w8s A).size = 32 := by rw [size_w8s, hA]
  by_cases h1 : n = 1
  · subst h1
    rw [climbX_one]
    generalize hl : p.length = m at *
    clear hl ih hR hb0 hp8 hn hi
    go_enter Tryd.func28, Tryd.ntmps28
    go_upto_region 2 with fail
    change Code.wp _ _ _ _ ((w.alloc (.cells (w8s A) 24)).alloc (.cells (w8s (List.replicate 32 0)) 24))
    generalize (w.alloc (.cells (w8s A) 24)).alloc (.cells (w8s (List.replicate 32 0)) 24) = W at *
    apply wp_region_lit
    refine gw_load (by kernel_rfl) (some 18) rfl 24 (.tmp 4) rfl ⟨w.heap.size, 0, none⟩ (.agg (w8s A)) (by kernel_rfl) (load_key hC.1 hA) ?_
    simp only [Act.put, List.setIfInBounds_toArray, List.set_cons_succ, List.set_cons_zero]
    refine gw_val (by kernel_rfl) (some 19) rfl (.slice al m c) (by kernel_rfl) ?_
    simp only [Act.put, List.setIfInBounds_toArray, List.set_cons_succ, List.set_cons_zero]
    refine gw_val (by kernel_rfl) (some 20) rfl (.int .i64 m) (by kernel_rfl) ?_
    simp only [Act.put, List.setIfInBounds_toArray, List.set_cons_succ, List.set_cons_zero]
    refine gw_val (by kernel_rfl) (some 21) rfl (.bool (decide (m = 0))) (eq_zero rfl m (by kernel_rfl) _) ?_
    simp only [Act.put, List.setIfInBounds_toArray, List.set_cons_succ, List.set_cons_zero]
    apply wpList_store_at (ty := 24) (x := .tmp 8) (y := .tmp 18) (g := w.heap.size + 1) (c := w8s (List.replicate 32 0)) (c' := w8s A)
    case hgd => rfl
    case ho => rfl
    case hx => kernel_rfl
    case hy => kernel_rfl
    case hg => exact hC.2.1
    case hi => rw [hsA]; kernel_rfl
    case hz => rw [hsA]; rfl
    case h1 => exact one_w8s _
    simp only [Act.put]
    refine gw_val (by kernel_rfl) (some 9) rfl (.bool (decide (m = 0))) (by kernel_rfl) ?_
    simp only [Act.put, List.setIfInBounds_toArray, List.set_cons_succ, List.set_cons_zero]
    apply wpList_nil
    have hA9 : Ab (W.setRow (w.heap.size + 1) (w8s A)) (w.heap.size + 1) 24 A := setRow_heap _ _ _ _ _ _ hC.2.1
    have hb9 := belowRow hC.2.2.2 (by omega : w.heap.size ≤ w.heap.size + 1) (w8s A)
    generalize W.setRow (w.heap.size + 1) (w8s A) = V9 at *
    clear hC
    go_wp2_with fail
    exact bodyPost_ret (results_cell_tmp (p := 8) (q := 9) (by kernel_rfl) (by kernel_rfl) (by kernel_rfl) hA9 (by kernel_rfl) (by rw [hA]; kernel_rfl)) rfl ⟨rfl, hb9⟩
  · have hd1 : ((n : Int) == 1) = false := by
      have : ((n : Nat) : Int) ≠ 1 := by omega
      exact beq_false_of_ne this
    rcases List.eq_nil_or_concat p with rfl | ⟨p0, last, rfl⟩
    · rw [climbX_nil A i n h1]
      obtain ⟨Z, hZ⟩ : ∃ Z, Z = List.replicate 32 (0 : Int) := ⟨_, rfl⟩
      have hsZ : (w8s Z).size = 32 := by rw [hZ]; rfl
      have hZl : Z.length = 32 := by rw [hZ]; rfl
      clear ih hR hb0 hp8 hi
      go_enter Tryd.func28, Tryd.ntmps28
      go_upto_region 4 with fail
      change Code.wp _ _ _ _ ((w.alloc (.cells (w8s A) 24)).alloc (.cells (w8s (List.replicate 32 0)) 24))
      generalize (w.alloc (.cells (w8s A) 24)).alloc (.cells (w8s (List.replicate 32 0)) 24) = W at *
      apply wp_region_lit
      refine gw_val (by kernel_rfl) (some 25) rfl (.agg (w8s (List.replicate 32 0))) (by kernel_rfl) ?_
      simp only [Act.put, List.setIfInBounds_toArray, List.set_cons_succ, List.set_cons_zero]
      rw [← hZ] at hC ⊢
      apply wpList_store_at (ty := 24) (x := .tmp 8) (y := .tmp 25) (g := w.heap.size + 1) (c := w8s Z) (c' := w8s Z)
      case hgd => rfl
      case ho => rfl
      case hx => kernel_rfl
      case hy => kernel_rfl
      case hg => exact hC.2.1
      case hi => rw [hsZ]; kernel_rfl
      case hz => rfl
      case h1 => exact one_w8s _
      simp only [Act.put]
      refine gw_val (by kernel_rfl) (some 9) rfl (.bool false) (by kernel_rfl) ?_
      simp only [Act.put, List.setIfInBounds_toArray, List.set_cons_succ, List.set_cons_zero]
      apply wpList_nil
      have hA9 : Ab (W.setRow (w.heap.size + 1) (w8s Z)) (w.heap.size + 1) 24 Z := setRow_heap _ _ _ _ _ _ hC.2.1
      have hb9 := belowRow hC.2.2.2 (by omega : w.heap.size ≤ w.heap.size + 1) (w8s Z)
      generalize W.setRow (w.heap.size + 1) (w8s Z) = V9 at *
      clear hC
      go_wp2_with fail
      exact bodyPost_ret (results_cell_tmp (p := 8) (q := 9) (by kernel_rfl) (by kernel_rfl) (by kernel_rfl) hA9 (by kernel_rfl) (by rw [hZl]; kernel_rfl)) rfl ⟨by rw [hZ], hb9⟩
    · rw [List.concat_eq_append] at *
      rw [climbX_snoc A i n p0 last h1]
      have hm : (p0 ++ [last]).length = p0.length + 1 := by simp
      have hm9 : p0.length ≤ 1000 := by omega
      obtain ⟨b, off, rfl, hb, hrg, hll⟩ := hC.2.2.1 p0.length (by omega)
      have eg : (p0 ++ [last]).getD p0.length [] = last := by simp [List.getD]
      rw [eg] at hrg hll
      have hl8 : ∀ x, x ∈ last → W8 x := hp8 last (by simp)
      have hsL : (w8s last).size = 32 := by rw [size_w8s, hll]
      obtain ⟨k1, k2, k3⟩ := halfN_spec n (by omega)
      have CH := fun V => half_any n V hn
      have hp80 : ∀ k ∈ p0, ∀ x, x ∈ k → W8 x := fun k hk => hp8 k (by simp [hk])
      have hRp : ∀ V, Rk V (some ⟨b, off, none⟩) (p0 ++ [last]) → Rk V (some ⟨b, off, none⟩) p0 := fun V h => by
        have := h.take p0.length
        rwa [List.take_left] at this
      have hts : ∀ V, (Instr.slice 35 (.slice (some ⟨b, off, none⟩) (p0.length + 1) c) none (some (.int .i64 (p0.length : Int))) none).run Tryd.prog V = .ok (.slice (some ⟨b, off, none⟩) p0.length c) V := fun V => keys_to _ _ c p0.length V (by omega)
      have hw1 : IntKind.i64.wrap (((p0.length + 1 : Nat) : Int) - 1) = (p0.length : Int) := by rw [IntKind.wrap_i64]; omega
      rw [hm]
      by_cases hik : i < halfN n
      · rw [if_pos hik]
        have hd3 : decide ((i : Int) < ((halfN n : Nat) : Int)) = true := decide_eq_true (by omega)
        have hX := climbW_byte A hA hA8 p0.reverse i (halfN n)
        have IH := fun (V : World) (h : Rk V (some ⟨b, off, none⟩) p0) => ih p0 (some ⟨b, off, none⟩) c i (halfN n) V (by omega) (by omega) h hp80 (by omega) hik
        rw [show climbW A i (halfN n) p0.reverse = climbX A i (halfN n) p0 from rfl] at hX
        have hXl := hX.1
        have hX8 := hX.2
        have CI := fun V => inner_any (climbX A i (halfN n) p0).1 last V hXl hll hX8 hl8
        generalize (climbX A i (halfN n) p0).1 = X at *
        generalize (climbX A i (halfN n) p0).2 = ok at *
        have hS : (innerL X last).length = 32 := shaL_len _
        generalize innerL X last = S at *
        have hsX : (w8s X).size = 32 := by rw [size_w8s, hXl]
        have hsS : (w8s S).size = 32 := by rw [size_w8s, hS]
        generalize halfN n = k at *
        generalize hlq : p0.length = m at *
        have HW1 := Lib.hid hw1
        clear ih hR hb0 hp8 hp80 hX hX8 hl8 hm eg hlq hpl hw1 hA8
        go_enter Tryd.func28, Tryd.ntmps28
        go_upto_region 5 with fail
        change Code.wp _ _ _ _ ((w.alloc (.cells (w8s A) 24)).alloc (.cells (w8s (List.replicate 32 0)) 24))
        generalize (w.alloc (.cells (w8s A) 24)).alloc (.cells (w8s (List.replicate 32 0)) 24) = W at *
        apply wp_region_lit
        refine gw_val (by kernel_rfl) (some 26) rfl (.slice (some ⟨b, off, none⟩) (m + 1) c) (by kernel_rfl) ?_
        simp only [Act.put, List.setIfInBounds_toArray, List.set_cons_succ, List.set_cons_zero]
        refine gw_val (by kernel_rfl) (some 27) rfl (.slice (some ⟨b, off, none⟩) (m + 1) c) (by kernel_rfl) ?_
        simp only [Act.put, List.setIfInBounds_toArray, List.set_cons_succ, List.set_cons_zero]
        refine gw_val (by kernel_rfl) (some 28) rfl (.int .i64 (m + 1 : Nat)) (by kernel_rfl) ?_
        simp only [Act.put, List.setIfInBounds_toArray, List.set_cons_succ, List.set_cons_zero]
        refine gw_val (by kernel_rfl) (some 29) rfl (.int .i64 (IntKind.i64.wrap (((m + 1 : Nat) : Int) - 1))) (by kernel_rfl) ?_
        simp only [Act.put, List.setIfInBounds_toArray, List.set_cons_succ, List.set_cons_zero]
        rw [HW1.out]
        have hlm : (m : Int) < (m : Int) + 1 := by omega
        refine wpList_plain rfl (fun KK hKK => ?_)
        go_simp
        apply hKK
        clear hKK KK
        apply wpList_load_mid (ty := 24) (x := .tmp 30) (b := b) (o := off + m * 32) (cs := last.map (Value.int .u8)) (d := .array 32 5)
        case hgd => rfl
        case ho => rfl
        case hx => kernel_rfl
        case hc => exact hrg
        case hu => kernel_rfl
        case hd => rfl
        case hi => rw [List.length_map, hll]; kernel_rfl
        refine run_to rfl (some 10) rfl (.pointer (some ⟨W.heap.size, 0, none⟩)) (W.alloc (.cells (w8s (List.replicate 32 0)) 24)) (by kernel_rfl) ?_
        apply wpList_store_new (w := W) (ty := 24) (x := .tmp 10) (y := .tmp 31) (c := w8s (List.replicate 32 0)) (c' := w8s last)
        case hgd => rfl
        case ho => rfl
        case hx => kernel_rfl
        case hy => kernel_rfl
        case hi => rw [hsL]; kernel_rfl
        case hz => rw [hsL]; rfl
        case h1 => exact one_w8s _
        apply wpList_nil
        have hLA : Ab (W.alloc (.cells (w8s last) 24)) W.heap.size 24 last := heap_alloc_last _ _
        have hC2 := hC.below ((Below.refl _ W).alloc (Nat.le_refl _) (.cells (w8s last) 24))
        generalize W.alloc (.cells (w8s last) 24) = V at *
        generalize W.heap.size = gl at *
        clear hC hrg hb
        simp only [Act.put, List.setIfInBounds_toArray, List.set_cons_succ, List.set_cons_zero]
        go_upto_region 8 with (go_at_call 24; refine (CH _).mono ?_; rintro e w1 ⟨rfl, rfl⟩)
        have hD0 : CD w A (List.replicate 32 0) (some ⟨b, off, none⟩) (p0 ++ [last]) gl last V.heap.size V.drew := by
          have h2 := hC2.2.1.lt
          have hD : CD w A (List.replicate 32 0) (some ⟨b, off, none⟩) (p0 ++ [last]) gl last V.heap.size V := ⟨hC2, hLA, Nat.le_refl _, by omega, hLA.lt, fun x hx => by
            obtain ⟨b2, off2, e2, hlt2, -, -⟩ := hC2.2.2.1 0 (by simp)
            rw [hx] at e2
            simp only [Option.some.injEq] at e2
            rw [e2]
            exact hlt2⟩
          exact hD.low (Below.refl _ V).drew
        obtain ⟨B0, hBB⟩ : ∃ B0, B0 = V.heap.size := ⟨_, rfl⟩
        rw [← hBB] at hD0
        have hge : B0 ≤ V.heap.size := Nat.le_of_eq hBB
        have HBB := Lib.hid hBB
        clear hBB
        have hr0 : V.drew.rangeAt w.heap.size 0 (A.map (Value.int .u8)) := hD0.1.1.range
        have hu24 : Tryd.prog.underlying 24 = some (.array 32 5) := by kernel_rfl
        have hi24 : (Tryd.prog.info? 24).map (·.size) = some (A.map (Value.int .u8)).length := by rw [List.length_map, hA]; kernel_rfl
        have hi24X : (Tryd.prog.info? 24).map (·.size) = some (X.map (Value.int .u8)).length := by rw [List.length_map, hXl]; kernel_rfl
        have hone := one_cells X
        have KA : ∀ (V1 : World) (o : Obj), (CD w A (List.replicate 32 0) (some ⟨b, off, none⟩) (p0 ++ [last]) gl last B0 V1 ∧ V1.rangeAt w.heap.size 0 (A.map (Value.int .u8))) → (CD w A (List.replicate 32 0) (some ⟨b, off, none⟩) (p0 ++ [last]) gl last B0 (V1.alloc o) ∧ (V1.alloc o).rangeAt w.heap.size 0 (A.map (Value.int .u8))) := fun V1 o h => ⟨h.1.alloc o, (h.1.alloc o).1.1.range⟩
        have KS : ∀ (V1 : World) (g : Nat) (vs : List Value), B0 ≤ g → (CD w A (List.replicate 32 0) (some ⟨b, off, none⟩) (p0 ++ [last]) gl last B0 V1 ∧ V1.rangeAt w.heap.size 0 (A.map (Value.int .u8))) → (CD w A (List.replicate 32 0) (some ⟨b, off, none⟩) (p0 ++ [last]) gl last B0 (V1.setCells g 0 vs) ∧ (V1.setCells g 0 vs).rangeAt w.heap.size 0 (A.map (Value.int .u8))) := fun V1 g vs hg h => ⟨h.1.cells g hg vs, (h.1.cells g hg vs).1.1.range⟩
        have FA : ∀ w2 : World, (w2.alloc (.cells #[.int .u8 0, .int .u8 0, .int .u8 0, .int .u8 0, .int .u8 0, .int .u8 0, .int .u8 0, .int .u8 0, .int .u8 0, .int .u8 0, .int .u8 0, .int .u8 0, .int .u8 0, .int .u8 0, .int .u8 0, .int .u8 0, .int .u8 0, .int .u8 0, .int .u8 0, .int .u8 0, .int .u8 0, .int .u8 0, .int .u8 0, .int .u8 0, .int .u8 0, .int .u8 0, .int .u8 0, .int .u8 0, .int .u8 0, .int .u8 0, .int .u8 0, .int .u8 0] 24)).there w2.heap.size 0 (X.map (Value.int .u8)).length := fun w2 => by
          have h0 : Ab (w2.alloc (.cells (w8s (List.replicate 32 0)) 24)) w2.heap.size 24 (List.replicate 32 0) := heap_alloc_last w2 _
          exact h0.there _ (by rw [List.length_map, hXl]; simp)
        have FB : ∀ w2 : World, Below ((V.alloc (.cells #[.int .u8 0, .int .u8 0, .int .u8 0, .int .u8 0, .int .u8 0, .int .u8 0, .int .u8 0, .int .u8 0, .int .u8 0, .int .u8 0, .int .u8 0, .int .u8 0, .int .u8 0, .int .u8 0, .int .u8 0, .int .u8 0, .int .u8 0, .int .u8 0, .int .u8 0, .int .u8 0, .int .u8 0, .int .u8 0, .int .u8 0, .int .u8 0, .int .u8 0, .int .u8 0, .int .u8 0, .int .u8 0, .int .u8 0, .int .u8 0, .int .u8 0, .int .u8 0] 24)).drew).heap.size ((V.alloc (.cells #[.int .u8 0, .int .u8 0, .int .u8 0, .int .u8 0, .int .u8 0, .int .u8 0, .int .u8 0, .int .u8 0, .int .u8 0, .int .u8 0, .int .u8 0, .int .u8 0, .int .u8 0, .int .u8 0, .int .u8 0, .int .u8 0, .int .u8 0, .int .u8 0, .int .u8 0, .int .u8 0, .int .u8 0, .int .u8 0, .int .u8 0, .int .u8 0, .int .u8 0, .int .u8 0, .int .u8 0, .int .u8 0, .int .u8 0, .int .u8 0, .int .u8 0, .int .u8 0] 24)).drew) w2 → Ab w2 V.heap.size 24 (List.replicate 32 0) := fun w2 hb => by
          have h0 : Ab (V.alloc (.cells (w8s (List.replicate 32 0)) 24)).drew V.heap.size 24 (List.replicate 32 0) := heap_alloc_last V (.cells (w8s (List.replicate 32 0)) 24)
          exact h0.below (by show V.heap.size < (V.alloc _).heap.size; simp) hb
        have FL : (X.map (Value.int .u8)).length ≤ (List.replicate 32 (0 : Int)).length := by rw [List.length_map, hXl]; simp
        have IH2 : ∀ V1 : World, (CD w A (List.replicate 32 0) (some ⟨b, off, none⟩) (p0 ++ [last]) gl last B0 V1 ∧ V1.rangeAt w.heap.size 0 (A.map (Value.int .u8))) → Calls Tryd.prog 28 #[.agg (w8s A), .int .i64 i, .int .i64 k, .slice (some ⟨b, off, none⟩) m c] V1 fun e w' => e = .returned (.tuple #[.agg (w8s X), .bool ok]) ∧ Below V1.heap.size V1 w' ∧ (CD w A (List.replicate 32 0) (some ⟨b, off, none⟩) (p0 ++ [last]) gl last B0 w' ∧ w'.rangeAt w.heap.size 0 (A.map (Value.int .u8))) := fun V1 h => (IH V1 (hRp V1 h.1.1.2.2.1)).mono fun e w' ⟨he, hb⟩ => ⟨he, hb, h.1.low (hb.mono h.1.2.2.1), (h.1.low (hb.mono h.1.2.2.1)).1.1.range⟩
        clear IH hRp hC2 hLA CH
        have hw1' := HW1.out
        have hw3' : IntKind.i64.wrap (m : Int) = (m : Int) := by rw [IntKind.wrap_i64]; omega
        have hw2' : IntKind.i64.wrap ((m : Int) + 1 - 1) = (m : Int) := by rw [IntKind.wrap_i64]; omega
        have hdummy := hlm
        go_region_held3 (fun V1 => CD w A (List.replicate 32 0) (some ⟨b, off, none⟩) (p0 ++ [last]) gl last B0 V1 ∧ V1.rangeAt w.heap.size 0 (A.map (Value.int .u8)))
          (first | exact ⟨hD0, hr0⟩ | assumption | exact KA _ _ (by assumption) | exact KS _ _ _ (by assumption) (by assumption)) (first
          | (go_at_call 28; refine (IH2 _ (by assumption)).mono ?_; rintro e w2 ⟨rfl, hbw, hS2⟩; have hth := FA w2; have hg2 := hS2.1.2.2.1; (try (have hF2 := FB w2 hbw; have hth2 := hF2.there _ FL))))
        · have hXA : Ab ((w2.alloc (.cells #[.int .u8 0, .int .u8 0, .int .u8 0, .int .u8 0, .int .u8 0, .int .u8 0, .int .u8 0, .int .u8 0, .int .u8 0, .int .u8 0, .int .u8 0, .int .u8 0, .int .u8 0, .int .u8 0, .int .u8 0, .int .u8 0, .int .u8 0, .int .u8 0, .int .u8 0, .int .u8 0, .int .u8 0, .int .u8 0, .int .u8 0, .int .u8 0, .int .u8 0, .int .u8 0, .int .u8 0, .int .u8 0, .int .u8 0, .int .u8 0, .int .u8 0, .int .u8 0] 24)).setCells w2.heap.size 0 (X.map (Value.int .u8))) w2.heap.size 24 X := by
            have h0 : Ab (w2.alloc (.cells (w8s (List.replicate 32 0)) 24)) w2.heap.size 24 (List.replicate 32 0) := heap_alloc_last w2 _
            exact h0.all X (by rw [hXl]; rfl)
          have hK4 := (KS _ w2.heap.size (X.map (Value.int .u8)) hg2 (KA w2 (.cells #[.int .u8 0, .int .u8 0, .int .u8 0, .int .u8 0, .int .u8 0, .int .u8 0, .int .u8 0, .int .u8 0, .int .u8 0, .int .u8 0, .int .u8 0, .int .u8 0, .int .u8 0, .int .u8 0, .int .u8 0, .int .u8 0, .int .u8 0, .int .u8 0, .int .u8 0, .int .u8 0, .int .u8 0, .int .u8 0, .int .u8 0, .int .u8 0, .int .u8 0, .int .u8 0, .int .u8 0, .int .u8 0, .int .u8 0, .int .u8 0, .int .u8 0, .int .u8 0] 24) hS2)).1
          generalize (w2.alloc (.cells #[.int .u8 0, .int .u8 0, .int .u8 0, .int .u8 0, .int .u8 0, .int .u8 0, .int .u8 0, .int .u8 0, .int .u8 0, .int .u8 0, .int .u8 0, .int .u8 0, .int .u8 0, .int .u8 0, .int .u8 0, .int .u8 0, .int .u8 0, .int .u8 0, .int .u8 0, .int .u8 0, .int .u8 0, .int .u8 0, .int .u8 0, .int .u8 0, .int .u8 0, .int .u8 0, .int .u8 0, .int .u8 0, .int .u8 0, .int .u8 0, .int .u8 0, .int .u8 0] 24)).setCells w2.heap.size 0 (X.map (Value.int .u8)) = V4 at *
          generalize w2.heap.size = gx at *
          clear KA KS FA FB IH2 hD0 hr0 hS2 hbw hth hg2 hge
          go_upto_region 9 with fail
          apply wp_region_lit
          refine gw_load (by kernel_rfl) (some 49) rfl 24 (.tmp 12) rfl ⟨gx, 0, none⟩ (.agg (w8s X)) (by kernel_rfl) (load_key hXA hXl) ?_
          simp only [Act.put, List.setIfInBounds_toArray, List.set_cons_succ, List.set_cons_zero]
          refine gw_load (by kernel_rfl) (some 50) rfl 24 (.tmp 10) rfl ⟨gl, 0, none⟩ (.agg (w8s last)) (by kernel_rfl) (load_key hK4.2.1 hll) ?_
          simp only [Act.put, List.setIfInBounds_toArray, List.set_cons_succ, List.set_cons_zero]
          refine gw_call (by kernel_rfl) (some 51) rfl 13 #[.agg (w8s X), .agg (w8s last)] (.agg (w8s S)) (Below V4.heap.size V4) (by kernel_rfl) (CI V4) (fun V5 hb5 => ?_)
          have hC5 := hK4.1.below hb5
          simp only [Act.put, List.setIfInBounds_toArray, List.set_cons_succ, List.set_cons_zero]
          refine gw_val (by kernel_rfl) (some 52) rfl (.bool ok) (by kernel_rfl) ?_
          simp only [Act.put, List.setIfInBounds_toArray, List.set_cons_succ, List.set_cons_zero]
          apply wpList_store_at (ty := 24) (x := .tmp 8) (y := .tmp 51) (g := w.heap.size + 1) (c := w8s (List.replicate 32 0)) (c' := w8s S)
          case hgd => rfl
          case ho => rfl
          case hx => kernel_rfl
          case hy => kernel_rfl
          case hg => exact hC5.2.1
          case hi => rw [hsS]; kernel_rfl
          case hz => rw [hsS]; rfl
          case h1 => exact one_w8s _
          simp only [Act.put]
          refine gw_val (by kernel_rfl) (some 9) rfl (.bool ok) (by kernel_rfl) ?_
          simp only [Act.put, List.setIfInBounds_toArray, List.set_cons_succ, List.set_cons_zero]
          apply wpList_nil
          have hA9 : Ab (V5.setRow (w.heap.size + 1) (w8s S)) (w.heap.size + 1) 24 S := setRow_heap _ _ _ _ _ _ hC5.2.1
          have hb9 := belowRow hC5.2.2.2 (by omega : w.heap.size ≤ w.heap.size + 1) (w8s S)
          generalize V5.setRow (w.heap.size + 1) (w8s S) = V9 at *
          clear hK4 hC5 hXA hb5 CI
          go_wp2_with fail
          exact bodyPost_ret (results_cell_tmp (p := 8) (q := 9) (by kernel_rfl) (by kernel_rfl) (by kernel_rfl) hA9 (by kernel_rfl) (by rw [hS]; kernel_rfl)) rfl ⟨rfl, hb9⟩
        · have hXA : Ab (w2.setCells V.heap.size 0 (X.map (Value.int .u8))) V.heap.size 24 X := hF2.all X (by rw [hXl]; rfl)
          have hK4 := (KS _ V.heap.size (X.map (Value.int .u8)) hge hS2).1
          clear hF2 hth2
          generalize w2.setCells V.heap.size 0 (X.map (Value.int .u8)) = V4 at *
          generalize V.heap.size = gx at *
          clear KA KS FA FB IH2 hD0 hr0 hS2 hbw hth hg2 hge
          go_upto_region 9 with fail
          apply wp_region_lit
          refine gw_load (by kernel_rfl) (some 49) rfl 24 (.tmp 12) rfl ⟨gx, 0, none⟩ (.agg (w8s X)) (by kernel_rfl) (load_key hXA hXl) ?_
          simp only [Act.put, List.setIfInBounds_toArray, List.set_cons_succ, List.set_cons_zero]
          refine gw_load (by kernel_rfl) (some 50) rfl 24 (.tmp 10) rfl ⟨gl, 0, none⟩ (.agg (w8s last)) (by kernel_rfl) (load_key hK4.2.1 hll) ?_
          simp only [Act.put, List.setIfInBounds_toArray, List.set_cons_succ, List.set_cons_zero]
          refine gw_call (by kernel_rfl) (some 51) rfl 13 #[.agg (w8s X), .agg (w8s last)] (.agg (w8s S)) (Below V4.heap.size V4) (by kernel_rfl) (CI V4) (fun V5 hb5 => ?_)
          have hC5 := hK4.1.below hb5
          simp only [Act.put, List.setIfInBounds_toArray, List.set_cons_succ, List.set_cons_zero]
          refine gw_val (by kernel_rfl) (some 52) rfl (.bool ok) (by kernel_rfl) ?_
          simp only [Act.put, List.setIfInBounds_toArray, List.set_cons_succ, List.set_cons_zero]
          apply wpList_store_at (ty := 24) (x := .tmp 8) (y := .tmp 51) (g := w.heap.size + 1) (c := w8s (List.replicate 32 0)) (c' := w8s S)
          case hgd => rfl
          case ho => rfl
          case hx => kernel_rfl
          case hy => kernel_rfl
          case hg => exact hC5.2.1
          case hi => rw [hsS]; kernel_rfl
          case hz => rw [hsS]; rfl
          case h1 => exact one_w8s _
          simp only [Act.put]
          refine gw_val (by kernel_rfl) (some 9) rfl (.bool ok) (by kernel_rfl) ?_
          simp only [Act.put, List.setIfInBounds_toArray, List.set_cons_succ, List.set_cons_zero]
          apply wpList_nil
          have hA9 : Ab (V5.setRow (w.heap.size + 1) (w8s S)) (w.heap.size + 1) 24 S := setRow_heap _ _ _ _ _ _ hC5.2.1
          have hb9 := belowRow hC5.2.2.2 (by omega : w.heap.size ≤ w.heap.size + 1) (w8s S)
          generalize V5.setRow (w.heap.size + 1) (w8s S) = V9 at *
          clear hK4 hC5 hXA hb5 CI
          go_wp2_with fail
          exact bodyPost_ret (results_cell_tmp (p := 8) (q := 9) (by kernel_rfl) (by kernel_rfl) (by kernel_rfl) hA9 (by kernel_rfl) (by rw [hS]; kernel_rfl)) rfl ⟨rfl, hb9⟩
      · rw [if_neg hik]
        have hd3 : decide ((i : Int) < ((halfN n : Nat) : Int)) = false := decide_eq_false (by omega)
        have hX := climbW_byte A hA hA8 p0.reverse (i - halfN n) (n - halfN n)
        have IH := fun (V : World) (h : Rk V (some ⟨b, off, none⟩) p0) => ih p0 (some ⟨b, off, none⟩) c (i - halfN n) (n - halfN n) V (by omega) (by omega) h hp80 (by omega) (by omega)
        rw [show climbW A (i - halfN n) (n - halfN n) p0.reverse = climbX A (i - halfN n) (n - halfN n) p0 from rfl] at hX
        have hXl := hX.1
        have hX8 := hX.2
        have CI := fun V => inner_any last (climbX A (i - halfN n) (n - halfN n) p0).1 V hll hXl hl8 hX8
        generalize (climbX A (i - halfN n) (n - halfN n) p0).1 = X at *
        generalize (climbX A (i - halfN n) (n - halfN n) p0).2 = ok at *
        have hS : (innerL last X).length = 32 := shaL_len _
        generalize innerL last X = S at *
        have hsX : (w8s X).size = 32 := by rw [size_w8s, hXl]
        have hsS : (w8s S).size = 32 := by rw [size_w8s, hS]
        have HS1 : Hid (IntKind.i64.wrap ((i : Int) - ((halfN n : Nat) : Int)) = ((i - halfN n : Nat) : Int)) := Lib.hid (by rw [IntKind.wrap_i64]; omega)
        have HS2 : Hid (IntKind.i64.wrap ((n : Int) - ((halfN n : Nat) : Int)) = ((n - halfN n : Nat) : Int)) := Lib.hid (by rw [IntKind.wrap_i64]; omega)
        generalize halfN n = k at *
        generalize hlq : p0.length = m at *
        have HW1 := Lib.hid hw1
        clear ih hR hb0 hp8 hp80 hX hX8 hl8 hm eg hlq hpl hw1 hA8
        go_enter Tryd.func28, Tryd.ntmps28
        go_upto_region 5 with fail
        change Code.wp _ _ _ _ ((w.alloc (.cells (w8s A) 24)).alloc (.cells (w8s (List.replicate 32 0)) 24))
        generalize (w.alloc (.cells (w8s A) 24)).alloc (.cells (w8s (List.replicate 32 0)) 24) = W at *
        apply wp_region_lit
        refine gw_val (by kernel_rfl) (some 26) rfl (.slice (some ⟨b, off, none⟩) (m + 1) c) (by kernel_rfl) ?_
        simp only [Act.put, List.setIfInBounds_toArray, List.set_cons_succ, List.set_cons_zero]
        refine gw_val (by kernel_rfl) (some 27) rfl (.slice (some ⟨b, off, none⟩) (m + 1) c) (by kernel_rfl) ?_
        simp only [Act.put, List.setIfInBounds_toArray, List.set_cons_succ, List.set_cons_zero]
        refine gw_val (by kernel_rfl) (some 28) rfl (.int .i64 (m + 1 : Nat)) (by kernel_rfl) ?_
        simp only [Act.put, List.setIfInBounds_toArray, List.set_cons_succ, List.set_cons_zero]
        refine gw_val (by kernel_rfl) (some 29) rfl (.int .i64 (IntKind.i64.wrap (((m + 1 : Nat) : Int) - 1))) (by kernel_rfl) ?_
        simp only [Act.put, List.setIfInBounds_toArray, List.set_cons_succ, List.set_cons_zero]
        rw [HW1.out]
        have hlm : (m : Int) < (m : Int) + 1 := by omega
        refine wpList_plain rfl (fun KK hKK => ?_)
        go_simp
        apply hKK
        clear hKK KK
        apply wpList_load_mid (ty := 24) (x := .tmp 30) (b := b) (o := off + m * 32) (cs := last.map (Value.int .u8)) (d := .array 32 5)
        case hgd => rfl
        case ho => rfl
        case hx => kernel_rfl
        case hc => exact hrg
        case hu => kernel_rfl
        case hd => rfl
        case hi => rw [List.length_map, hll]; kernel_rfl
        refine run_to rfl (some 10) rfl (.pointer (some ⟨W.heap.size, 0, none⟩)) (W.alloc (.cells (w8s (List.replicate 32 0)) 24)) (by kernel_rfl) ?_
        apply wpList_store_new (w := W) (ty := 24) (x := .tmp 10) (y := .tmp 31) (c := w8s (List.replicate 32 0)) (c' := w8s last)
        case hgd => rfl
        case ho => rfl
        case hx => kernel_rfl
        case hy => kernel_rfl
        case hi => rw [hsL]; kernel_rfl
        case hz => rw [hsL]; rfl
        case h1 => exact one_w8s _
        apply wpList_nil
        have hLA : Ab (W.alloc (.cells (w8s last) 24)) W.heap.size 24 last := heap_alloc_last _ _
        have hC2 := hC.below ((Below.refl _ W).alloc (Nat.le_refl _) (.cells (w8s last) 24))
        generalize W.alloc (.cells (w8s last) 24) = V at *
        generalize W.heap.size = gl at *
        clear hC hrg hb
        simp only [Act.put, List.setIfInBounds_toArray, List.set_cons_succ, List.set_cons_zero]
        go_upto_region 10 with (go_at_call 24; refine (CH _).mono ?_; rintro e w1 ⟨rfl, rfl⟩)
        have hD0 : CD w A (List.replicate 32 0) (some ⟨b, off, none⟩) (p0 ++ [last]) gl last V.heap.size V.drew := by
          have h2 := hC2.2.1.lt
          have hD : CD w A (List.replicate 32 0) (some ⟨b, off, none⟩) (p0 ++ [last]) gl last V.heap.size V := ⟨hC2, hLA, Nat.le_refl _, by omega, hLA.lt, fun x hx => by
            obtain ⟨b2, off2, e2, hlt2, -, -⟩ := hC2.2.2.1 0 (by simp)
            rw [hx] at e2
            simp only [Option.some.injEq] at e2
            rw [e2]
            exact hlt2⟩
          exact hD.low (Below.refl _ V).drew
        obtain ⟨B0, hBB⟩ : ∃ B0, B0 = V.heap.size := ⟨_, rfl⟩
        rw [← hBB] at hD0
        have hge : B0 ≤ V.heap.size := Nat.le_of_eq hBB
        have HBB := Lib.hid hBB
        clear hBB
        have hr0 : V.drew.rangeAt w.heap.size 0 (A.map (Value.int .u8)) := hD0.1.1.range
        have hu24 : Tryd.prog.underlying 24 = some (.array 32 5) := by kernel_rfl
        have hi24 : (Tryd.prog.info? 24).map (·.size) = some (A.map (Value.int .u8)).length := by rw [List.length_map, hA]; kernel_rfl
        have hi24X : (Tryd.prog.info? 24).map (·.size) = some (X.map (Value.int .u8)).length := by rw [List.length_map, hXl]; kernel_rfl
        have hone := one_cells X
        have KA : ∀ (V1 : World) (o : Obj), (CD w A (List.replicate 32 0) (some ⟨b, off, none⟩) (p0 ++ [last]) gl last B0 V1 ∧ V1.rangeAt w.heap.size 0 (A.map (Value.int .u8))) → (CD w A (List.replicate 32 0) (some ⟨b, off, none⟩) (p0 ++ [last]) gl last B0 (V1.alloc o) ∧ (V1.alloc o).rangeAt w.heap.size 0 (A.map (Value.int .u8))) := fun V1 o h => ⟨h.1.alloc o, (h.1.alloc o).1.1.range⟩
        have KS : ∀ (V1 : World) (g : Nat) (vs : List Value), B0 ≤ g → (CD w A (List.replicate 32 0) (some ⟨b, off, none⟩) (p0 ++ [last]) gl last B0 V1 ∧ V1.rangeAt w.heap.size 0 (A.map (Value.int .u8))) → (CD w A (List.replicate 32 0) (some ⟨b, off, none⟩) (p0 ++ [last]) gl last B0 (V1.setCells g 0 vs) ∧ (V1.setCells g 0 vs).rangeAt w.heap.size 0 (A.map (Value.int .u8))) := fun V1 g vs hg h => ⟨h.1.cells g hg vs, (h.1.cells g hg vs).1.1.range⟩
        have FA : ∀ w2 : World, (w2.alloc (.cells #[.int .u8 0, .int .u8 0, .int .u8 0, .int .u8 0, .int .u8 0, .int .u8 0, .int .u8 0, .int .u8 0, .int .u8 0, .int .u8 0, .int .u8 0, .int .u8 0, .int .u8 0, .int .u8 0, .int .u8 0, .int .u8 0, .int .u8 0, .int .u8 0, .int .u8 0, .int .u8 0, .int .u8 0, .int .u8 0, .int .u8 0, .int .u8 0, .int .u8 0, .int .u8 0, .int .u8 0, .int .u8 0, .int .u8 0, .int .u8 0, .int .u8 0, .int .u8 0] 24)).there w2.heap.size 0 (X.map (Value.int .u8)).length := fun w2 => by
          have h0 : Ab (w2.alloc (.cells (w8s (List.replicate 32 0)) 24)) w2.heap.size 24 (List.replicate 32 0) := heap_alloc_last w2 _
          exact h0.there _ (by rw [List.length_map, hXl]; simp)
        have FB : ∀ w2 : World, Below ((V.alloc (.cells #[.int .u8 0, .int .u8 0, .int .u8 0, .int .u8 0, .int .u8 0, .int .u8 0, .int .u8 0, .int .u8 0, .int .u8 0, .int .u8 0, .int .u8 0, .int .u8 0, .int .u8 0, .int .u8 0, .int .u8 0, .int .u8 0, .int .u8 0, .int .u8 0, .int .u8 0, .int .u8 0, .int .u8 0, .int .u8 0, .int .u8 0, .int .u8 0, .int .u8 0, .int .u8 0, .int .u8 0, .int .u8 0, .int .u8 0, .int .u8 0, .int .u8 0, .int .u8 0] 24)).drew).heap.size ((V.alloc (.cells #[.int .u8 0, .int .u8 0, .int .u8 0, .int .u8 0, .int .u8 0, .int .u8 0, .int .u8 0, .int .u8 0, .int .u8 0, .int .u8 0, .int .u8 0, .int .u8 0, .int .u8 0, .int .u8 0, .int .u8 0, .int .u8 0, .int .u8 0, .int .u8 0, .int .u8 0, .int .u8 0, .int .u8 0, .int .u8 0, .int .u8 0, .int .u8 0, .int .u8 0, .int .u8 0, .int .u8 0, .int .u8 0, .int .u8 0, .int .u8 0, .int .u8 0, .int .u8 0] 24)).drew) w2 → Ab w2 V.heap.size 24 (List.replicate 32 0) := fun w2 hb => by
          have h0 : Ab (V.alloc (.cells (w8s (List.replicate 32 0)) 24)).drew V.heap.size 24 (List.replicate 32 0) := heap_alloc_last V (.cells (w8s (List.replicate 32 0)) 24)
          exact h0.below (by show V.heap.size < (V.alloc _).heap.size; simp) hb
        have FL : (X.map (Value.int .u8)).length ≤ (List.replicate 32 (0 : Int)).length := by rw [List.length_map, hXl]; simp
        have IH2 : ∀ V1 : World, (CD w A (List.replicate 32 0) (some ⟨b, off, none⟩) (p0 ++ [last]) gl last B0 V1 ∧ V1.rangeAt w.heap.size 0 (A.map (Value.int .u8))) → Calls Tryd.prog 28 #[.agg (w8s A), .int .i64 (i - k : Nat), .int .i64 (n - k : Nat), .slice (some ⟨b, off, none⟩) m c] V1 fun e w' => e = .returned (.tuple #[.agg (w8s X), .bool ok]) ∧ Below V1.heap.size V1 w' ∧ (CD w A (List.replicate 32 0) (some ⟨b, off, none⟩) (p0 ++ [last]) gl last B0 w' ∧ w'.rangeAt w.heap.size 0 (A.map (Value.int .u8))) := fun V1 h => (IH V1 (hRp V1 h.1.1.2.2.1)).mono fun e w' ⟨he, hb⟩ => ⟨he, hb, h.1.low (hb.mono h.1.2.2.1), (h.1.low (hb.mono h.1.2.2.1)).1.1.range⟩
        clear IH hRp hC2 hLA CH
        have hw1' := HW1.out
        have hw3' : IntKind.i64.wrap (m : Int) = (m : Int) := by rw [IntKind.wrap_i64]; omega
        have hw2' : IntKind.i64.wrap ((m : Int) + 1 - 1) = (m : Int) := by rw [IntKind.wrap_i64]; omega
        have hs1 := HS1.out
        have hs2 := HS2.out
        go_region_held3 (fun V1 => CD w A (List.replicate 32 0) (some ⟨b, off, none⟩) (p0 ++ [last]) gl last B0 V1 ∧ V1.rangeAt w.heap.size 0 (A.map (Value.int .u8)))
          (first | exact ⟨hD0, hr0⟩ | assumption | exact KA _ _ (by assumption) | exact KS _ _ _ (by assumption) (by assumption)) (first
          | (go_at_call 28; refine (IH2 _ (by assumption)).mono ?_; rintro e w2 ⟨rfl, hbw, hS2⟩; have hth := FA w2; have hg2 := hS2.1.2.2.1; (try (have hF2 := FB w2 hbw; have hth2 := hF2.there _ FL))))
        · have hXA : Ab ((w2.alloc (.cells #[.int .u8 0, .int .u8 0, .int .u8 0, .int .u8 0, .int .u8 0, .int .u8 0, .int .u8 0, .int .u8 0, .int .u8 0, .int .u8 0, .int .u8 0, .int .u8 0, .int .u8 0, .int .u8 0, .int .u8 0, .int .u8 0, .int .u8 0, .int .u8 0, .int .u8 0, .int .u8 0, .int .u8 0, .int .u8 0, .int .u8 0, .int .u8 0, .int .u8 0, .int .u8 0, .int .u8 0, .int .u8 0, .int .u8 0, .int .u8 0, .int .u8 0, .int .u8 0] 24)).setCells w2.heap.size 0 (X.map (Value.int .u8))) w2.heap.size 24 X := by
            have h0 : Ab (w2.alloc (.cells (w8s (List.replicate 32 0)) 24)) w2.heap.size 24 (List.replicate 32 0) := heap_alloc_last w2 _
            exact h0.all X (by rw [hXl]; rfl)
          have hK4 := (KS _ w2.heap.size (X.map (Value.int .u8)) hg2 (KA w2 (.cells #[.int .u8 0, .int .u8 0, .int .u8 0, .int .u8 0, .int .u8 0, .int .u8 0, .int .u8 0, .int .u8 0, .int .u8 0, .int .u8 0, .int .u8 0, .int .u8 0, .int .u8 0, .int .u8 0, .int .u8 0, .int .u8 0, .int .u8 0, .int .u8 0, .int .u8 0, .int .u8 0, .int .u8 0, .int .u8 0, .int .u8 0, .int .u8 0, .int .u8 0, .int .u8 0, .int .u8 0, .int .u8 0, .int .u8 0, .int .u8 0, .int .u8 0, .int .u8 0] 24) hS2)).1
          generalize (w2.alloc (.cells #[.int .u8 0, .int .u8 0, .int .u8 0, .int .u8 0, .int .u8 0, .int .u8 0, .int .u8 0, .int .u8 0, .int .u8 0, .int .u8 0, .int .u8 0, .int .u8 0, .int .u8 0, .int .u8 0, .int .u8 0, .int .u8 0, .int .u8 0, .int .u8 0, .int .u8 0, .int .u8 0, .int .u8 0, .int .u8 0, .int .u8 0, .int .u8 0, .int .u8 0, .int .u8 0, .int .u8 0, .int .u8 0, .int .u8 0, .int .u8 0, .int .u8 0, .int .u8 0] 24)).setCells w2.heap.size 0 (X.map (Value.int .u8)) = V4 at *
          generalize w2.heap.size = gx at *
          clear KA KS FA FB IH2 hD0 hr0 hS2 hbw hth hg2 hge
          go_upto_region 11 with fail
          apply wp_region_lit
          refine gw_load (by kernel_rfl) (some 69) rfl 24 (.tmp 10) rfl ⟨gl, 0, none⟩ (.agg (w8s last)) (by kernel_rfl) (load_key hK4.2.1 hll) ?_
          simp only [Act.put, List.setIfInBounds_toArray, List.set_cons_succ, List.set_cons_zero]
          refine gw_load (by kernel_rfl) (some 70) rfl 24 (.tmp 14) rfl ⟨gx, 0, none⟩ (.agg (w8s X)) (by kernel_rfl) (load_key hXA hXl) ?_
          simp only [Act.put, List.setIfInBounds_toArray, List.set_cons_succ, List.set_cons_zero]
          refine gw_call (by kernel_rfl) (some 71) rfl 13 #[.agg (w8s last), .agg (w8s X)] (.agg (w8s S)) (Below V4.heap.size V4) (by kernel_rfl) (CI V4) (fun V5 hb5 => ?_)
          have hC5 := hK4.1.below hb5
          simp only [Act.put, List.setIfInBounds_toArray, List.set_cons_succ, List.set_cons_zero]
          refine gw_val (by kernel_rfl) (some 72) rfl (.bool ok) (by kernel_rfl) ?_
          simp only [Act.put, List.setIfInBounds_toArray, List.set_cons_succ, List.set_cons_zero]
          apply wpList_store_at (ty := 24) (x := .tmp 8) (y := .tmp 71) (g := w.heap.size + 1) (c := w8s (List.replicate 32 0)) (c' := w8s S)
          case hgd => rfl
          case ho => rfl
          case hx => kernel_rfl
          case hy => kernel_rfl
          case hg => exact hC5.2.1
          case hi => rw [hsS]; kernel_rfl
          case hz => rw [hsS]; rfl
          case h1 => exact one_w8s _
          simp only [Act.put]
          refine gw_val (by kernel_rfl) (some 9) rfl (.bool ok) (by kernel_rfl) ?_
          simp only [Act.put, List.setIfInBounds_toArray, List.set_cons_succ, List.set_cons_zero]
          apply wpList_nil
          have hA9 : Ab (V5.setRow (w.heap.size + 1) (w8s S)) (w.heap.size + 1) 24 S := setRow_heap _ _ _ _ _ _ hC5.2.1
          have hb9 := belowRow hC5.2.2.2 (by omega : w.heap.size ≤ w.heap.size + 1) (w8s S)
          generalize V5.setRow (w.heap.size + 1) (w8s S) = V9 at *
          clear hK4 hC5 hXA hb5 CI
          go_wp2_with fail
          exact bodyPost_ret (results_cell_tmp (p := 8) (q := 9) (by kernel_rfl) (by kernel_rfl) (by kernel_rfl) hA9 (by kernel_rfl) (by rw [hS]; kernel_rfl)) rfl ⟨rfl, hb9⟩
        · have hXA : Ab (w2.setCells V.heap.size 0 (X.map (Value.int .u8))) V.heap.size 24 X := hF2.all X (by rw [hXl]; rfl)
          have hK4 := (KS _ V.heap.size (X.map (Value.int .u8)) hge hS2).1
          clear hF2 hth2
          generalize w2.setCells V.heap.size 0 (X.map (Value.int .u8)) = V4 at *
          generalize V.heap.size = gx at *
          clear KA KS FA FB IH2 hD0 hr0 hS2 hbw hth hg2 hge
          go_upto_region 11 with fail
          apply wp_region_lit
          refine gw_load (by kernel_rfl) (some 69) rfl 24 (.tmp 10) rfl ⟨gl, 0, none⟩ (.agg (w8s last)) (by kernel_rfl) (load_key hK4.2.1 hll) ?_
          simp only [Act.put, List.setIfInBounds_toArray, List.set_cons_succ, List.set_cons_zero]
          refine gw_load (by kernel_rfl) (some 70) rfl 24 (.tmp 14) rfl ⟨gx, 0, none⟩ (.agg (w8s X)) (by kernel_rfl) (load_key hXA hXl) ?_
          simp only [Act.put, List.setIfInBounds_toArray, List.set_cons_succ, List.set_cons_zero]
          refine gw_call (by kernel_rfl) (some 71) rfl 13 #[.agg (w8s last), .agg (w8s X)] (.agg (w8s S)) (Below V4.heap.size V4) (by kernel_rfl) (CI V4) (fun V5 hb5 => ?_)
          have hC5 := hK4.1.below hb5
          simp only [Act.put, List.setIfInBounds_toArray, List.set_cons_succ, List.set_cons_zero]
          refine gw_val (by kernel_rfl) (some 72) rfl (.bool ok) (by kernel_rfl) ?_
          simp only [Act.put, List.setIfInBounds_toArray, List.set_cons_succ, List.set_cons_zero]
          apply wpList_store_at (ty := 24) (x := .tmp 8) (y := .tmp 71) (g := w.heap.size + 1) (c := w8s (List.replicate 32 0)) (c' := w8s S)
          case hgd => rfl
          case ho => rfl
          case hx => kernel_rfl
          case hy => kernel_rfl
          case hg => exact hC5.2.1
          case hi => rw [hsS]; kernel_rfl
          case hz => rw [hsS]; rfl
          case h1 => exact one_w8s _
          simp only [Act.put]
          refine gw_val (by kernel_rfl) (some 9) rfl (.bool ok) (by kernel_rfl) ?_
          simp only [Act.put, List.setIfInBounds_toArray, List.set_cons_succ, List.set_cons_zero]
          apply wpList_nil
          have hA9 : Ab (V5.setRow (w.heap.size + 1) (w8s S)) (w.heap.size + 1) 24 S := setRow_heap _ _ _ _ _ _ hC5.2.1
          have hb9 := belowRow hC5.2.2.2 (by omega : w.heap.size ≤ w.heap.size + 1) (w8s S)
          generalize V5.setRow (w.heap.size + 1) (w8s S) = V9 at *
          clear hK4 hC5 hXA hb5 CI
          go_wp2_with fail
          exact bodyPost_ret (results_cell_tmp (p := 8) (q := 9) (by kernel_rfl) (by kernel_rfl) (by kernel_rfl) hA9 (by kernel_rfl) (by rw [hS]; kernel_rfl)) rfl ⟨rfl, hb9⟩

theorem refclimb_any (p : List (List Int)) (al : Option Addr) (c i n : Nat) (A : List Int) (w : World) (hA : A.length = 32) (hA8 : ∀ x, x ∈ A → W8 x) (hp8 : ∀ k ∈ p, ∀ x, x ∈ k → W8 x) (hn : n ≤ 1000000) (hi : i < n) (hpl : p.length ≤ 1000) (hc : p.length ≤ c) (hR : Rk w al p) :
    Calls Tryd.prog 28 #[.agg (w8s A), .int .i64 i, .int .i64 n, .slice al p.length c] w fun e w' => e = .returned (.tuple #[.agg (w8s (climbX A i n p).1), .bool (climbX A i n p).2]) ∧ Below w.heap.size w w' := by
  have h : ∀ m, ∀ (p : List (List Int)) (al : Option Addr) (c i n : Nat) (w : World), p.length ≤ m → p.length ≤ 1000 → p.length ≤ c → Rk w al p → (∀ k ∈ p, ∀ x, x ∈ k → W8 x) → n ≤ 1000000 → i < n →
      Calls Tryd.prog 28 #[.agg (w8s A), .int .i64 i, .int .i64 n, .slice al p.length c] w fun e w' => e = .returned (.tuple #[.agg (w8s (climbX A i n p).1), .bool (climbX A i n p).2]) ∧ Below w.heap.size w w' := by
    intro m
    induction m with
    | zero => exact fun p al c i n w hm hpl hc hR hp8 hn hi => refclimb_step p al c i n A w hA hA8 hp8 hn hi hpl hc hR (fun p2 _ _ _ _ _ hl _ _ _ _ _ => by omega)
    | succ m ih => exact fun p al c i n w hm hpl hc hR hp8 hn hi => refclimb_step p al c i n A w hA hA8 hp8 hn hi hpl hc hR (fun p2 al2 c2 i2 n2 w2 hl hc2 hR2 h8 hn2 hi2 => ih p2 al2 c2 i2 n2 w2 (by omega) (by omega) hc2 hR2 h8 hn2 hi2)
  exact h p.length p al c i n w (Nat.le_refl _) hpl hc hR hp8 hn hi
end Go.Proofs.YtbhnbcpllhefgaaDoor
