/-
  The contracts of keyOf, of the reference's Distinct (of different keys), Drop and Push.
-/
import Derived.Test.YtjblfpifhbmfoaaCR
namespace Go.Proofs.Ytjblfpifhbmfoaa
open Go.RowKit
set_option linter.unusedSimpArgs false
set_option linter.unusedVariables false

def keyL (n : Int) : List Int := n :: 7 :: List.replicate 30 0
theorem keyL_len (n : Int) : (keyL n).length = 32 := by simp [keyL]
theorem keyL_inj {n m : Int} (h : keyL n = keyL m) : n = m := by
  unfold keyL at h
  simpa using h
theorem conv_u8 {ρ : Operand → Value} {o : Oper} {x : Operand} (ho : o.op = .convert 3 5 x) (n : Int) (h0 : 0 ≤ n) (h1 : n ≤ 255) (hx : ρ x = .int .i64 n) (w : World) : (execOp ρ o).run Try.prog w = .ok (.value (.int .u8 n)) w := by
  have e : IntKind.u8.wrap n = n := by
    simp [IntKind.wrap, IntKind.bits, IntKind.signed]
    omega
  unfold execOp
  simp only [ho, hx]
  simp [go_sem, e]
theorem results_k {fn : Func} {tmps : Array Value} {w : World} {p g : Nat} (hr : fn.results = #[.cell p 34]) (h2 : tmps.getD p undef = .pointer (some ⟨g, 0, none⟩)) {v : Value} (hl : (Instr.loadAt 34 (.pointer (some ⟨g, 0, none⟩))).run Try.prog w = .ok v w) : (results fn tmps).run Try.prog w = .ok v w := by
  unfold results
  rw [hr]
  have h2' : tmps[p]?.getD undef = .pointer (some ⟨g, 0, none⟩) := by simpa using h2
  have hl' := hl
  simp only [Instr.loadAt, Instr.sureAddr, Sem.run_bind, Sem.run_pure, Result.andThen_ok] at hl'
  simp [h2', asAddr, hl', Result.andThen]
set_option maxRecDepth 100000 in
set_option maxHeartbeats 2000000 in
theorem key_of (n : Int) (w : World) (h0 : 0 ≤ n) (h1 : n ≤ 255) : Calls Try.prog 12 #[.int .i64 n] w fun e w' => e = .returned (.agg (w8s (keyL n))) ∧ Below w.heap.size w w' := by
  have hb : Below w.heap.size w (w.alloc (.cells (w8s (keyL n)) 34)) := (Below.refl _ w).alloc (Nat.le_refl _) _
  have hX : Bx (w.alloc (.cells (w8s (keyL n)) 34)) w.heap.size (w8s (keyL n)) 34 := heap_alloc_last w _
  have hl := load_key hX (keyL_len n)
  have hsk := size_key (keyL_len n)
  have hzk : (w8s zeroK).size = (w8s (keyL n)).size := by rw [size_w8s, size_w8s, keyL_len]; rfl
  go_enter Try.func12, Try.ntmps12
  go_upto_region 1 with fail
  change Code.wp _ _ _ _ (w.alloc (.cells (w8s zeroK) 34))
  apply wp_region_lit
  refine gw_val (by kernel_rfl) (some 3) rfl (.int .i64 n) (by kernel_rfl) ?_
  simp only [Act.put, List.setIfInBounds_toArray, List.set_cons_succ, List.set_cons_zero]
  refine gw_val (by kernel_rfl) (some 4) rfl (.int .u8 n) (conv_u8 rfl n h0 h1 (by kernel_rfl) _) ?_
  simp only [Act.put, List.setIfInBounds_toArray, List.set_cons_succ, List.set_cons_zero]
  refine gw_val (by kernel_rfl) (some 5) rfl (.agg (w8s (keyL n))) (by kernel_rfl) ?_
  simp only [Act.put, List.setIfInBounds_toArray, List.set_cons_succ, List.set_cons_zero]
  apply wpList_store_new (w := w) (ty := 34) (x := .tmp 2) (y := .tmp 5) (c := w8s zeroK) (c' := w8s (keyL n))
  case hgd => rfl
  case ho => rfl
  case hx => kernel_rfl
  case hy => kernel_rfl
  case hi => exact hsk
  case hz => exact hzk
  case h1 => exact one_w8s _
  simp only [Act.put]
  apply wpList_nil
  have HB := Lib.hid hb
  have HL := Lib.hid hl
  generalize w.alloc (.cells (w8s (keyL n)) 34) = V at *
  clear hb hX hl hsk hzk
  go_wp2_with fail
  exact bodyPost_ret (results_k (p := 2) rfl (by kernel_rfl) HL.out) rfl ⟨rfl, HB.out⟩
theorem nodup_take {Ks : List (List Int)} (h : Ks.Nodup) {i : Nat} (hi : i < Ks.length) : Ks.getD i [] ∉ Ks.take i := fun hm => by
  rw [getD_lt Ks i [] hi] at hm
  have e : Ks = Ks.take i ++ Ks.drop i := (List.take_append_drop i Ks).symm
  rw [e, List.nodup_append] at h
  refine h.2.2 _ hm (Ks[i]) ?_ rfl
  rw [List.drop_eq_getElem_cons hi]
  exact List.mem_cons_self
theorem slice_run {P : Program} {ρ : Operand → Value} {o : Oper} {ty : TypeId} {x y : Operand} {vx vy v : Value} {w : World} (ho : o.op = .slice ty x none (some y) none) (hx : ρ x = vx) (hy : ρ y = vy) (hs : (Instr.sliceAt ty vx none (some vy) none).run P w = .ok v w) : (execOp ρ o).run P w = .ok (.value v) w := by
  unfold execOp
  simp only [ho, hx, hy, Option.map_some, Option.map_none, Sem.run_bind, hs]
  rfl
set_option maxRecDepth 100000 in
set_option maxHeartbeats 2000000 in
theorem ref_dist (al : Option Addr) (c : Nat) (Ks : List (List Int)) (w : World) (hR : Cs w al (kcells Ks)) (hcc : Ks.length ≤ c) (hc : Kc Ks) (hn : Ks.Nodup) (hl : Ks.length ≤ 100000) :
    Calls Try.prog 24 #[.slice al Ks.length c] w fun e w' => e = .returned (.bool true) ∧ Below w.heap.size w w' := by
  have HA := Lib.hid hR
  have HC := Lib.hid hc
  have HD := Lib.hid hn
  obtain ⟨n, hnn⟩ : ∃ n, Ks.length = n := ⟨_, rfl⟩
  have HN := Lib.hid hnn
  rw [hnn] at hl hcc ⊢
  clear hR hc hn hnn
  go_enter Try.func24, Try.ntmps24
  go_upto_region 1 with fail
  apply wp_region_lit
  refine gw_val (by kernel_rfl) (some 5) rfl (.slice al n c) (by kernel_rfl) ?_
  simp only [Act.put, List.setIfInBounds_toArray, List.set_cons_succ, List.set_cons_zero]
  refine gw_val (by kernel_rfl) (some 6) rfl (.int .i64 n) (by kernel_rfl) ?_
  simp only [Act.put, List.setIfInBounds_toArray, List.set_cons_succ, List.set_cons_zero]
  refine gw_val (by kernel_rfl) (some 7) rfl (.int .i64 0) (by kernel_rfl) ?_
  simp only [Act.put, List.setIfInBounds_toArray, List.set_cons_succ, List.set_cons_zero]
  apply wpList_nil
  go_wp2_with fail
  go_loopg [7] n (fun gg s7 wx => ∃ i : Nat, s7 = .int .i64 i ∧ i ≤ n ∧ Below w.heap.size w wx ∧ n - i = gg)
  case atStart => exact ⟨0, rfl, by omega, Below.refl _ _, rfl⟩
  case round =>
    obtain ⟨i, rfl, hi, hB, hg⟩ := hrel
    by_cases hlt : i < n
    · have hd : decide (i < n) = true := decide_eq_true hlt
      obtain ⟨b, off, rfl, hbb, hrx⟩ := key_at (HA.out.below hB) HC.out (i := i) (by rw [HN.out]; exact hlt)
      have hx32 := HC.out.at (i := i) (by rw [HN.out]; exact hlt)
      have hnt := nodup_take HD.out (i := i) (by rw [HN.out]; exact hlt)
      have htl : (Ks.take i).length = i := by rw [List.length_take, HN.out]; omega
      have CH := fun V (hV : Below w.heap.size w V) => ref_has (some ⟨b, off, none⟩) c (Ks.take i) (Ks.getD i []) V hx32 (by rw [← kcells_take Ks HC.out i]; exact (HA.out.below hV).take _) (HC.out.take i) (by omega)
      rw [htl, decide_eq_false hnt] at CH
      generalize Ks.getD i [] = x at *
      have HG : Hid (n - (i + 1) = gk - 1 ∧ 0 < gk ∧ i + 1 ≤ n) := Lib.hid ⟨by omega, by omega, by omega⟩
      clear hg hnt htl
      go_upto_region 2 with fail
      apply wp_region_lit
      refine gw_val (by kernel_rfl) (some 8) rfl (.bool (decide (i < n))) (lt_nat rfl i n (by kernel_rfl) (by kernel_rfl) _) ?_
      simp only [Act.put, List.setIfInBounds_toArray, List.set_cons_succ, List.set_cons_zero]
      rw [hd]
      apply wpList_nil
      go_upto_region 3 with fail
      apply wp_region_lit
      refine gw_val (by kernel_rfl) (some 9) rfl (.int .i64 i) (by kernel_rfl) ?_
      simp only [Act.put, List.setIfInBounds_toArray, List.set_cons_succ, List.set_cons_zero]
      refine gw_val (by kernel_rfl) (some 10) rfl (.pointer (some ⟨b, off + i * 32, none⟩)) (idx_key b off n c i hlt _ _ _ rfl (by kernel_rfl) (by kernel_rfl)) ?_
      simp only [Act.put, List.setIfInBounds_toArray, List.set_cons_succ, List.set_cons_zero]
      refine gw_load (by kernel_rfl) (some 11) rfl 34 (.tmp 10) rfl ⟨b, off + i * 32, none⟩ (.agg (w8s x)) (by kernel_rfl) (load_mid hrx hx32) ?_
      simp only [Act.put, List.setIfInBounds_toArray, List.set_cons_succ, List.set_cons_zero]
      refine run_to rfl (some 4) rfl (.pointer (some ⟨wr.heap.size, 0, none⟩)) (wr.alloc (.cells (w8s zeroK) 34)) (by kernel_rfl) ?_
      simp only [Act.put, List.setIfInBounds_toArray, List.set_cons_succ, List.set_cons_zero]
      refine gw_val (by kernel_rfl) (some 3) rfl (.int .i64 i) (by kernel_rfl) ?_
      simp only [Act.put, List.setIfInBounds_toArray, List.set_cons_succ, List.set_cons_zero]
      apply wpList_store_new (w := wr) (ty := 34) (x := .tmp 4) (y := .tmp 11) (c := w8s zeroK) (c' := w8s x)
      case hgd => rfl
      case ho => rfl
      case hx => kernel_rfl
      case hy => kernel_rfl
      case hi => exact size_key hx32
      case hz => rw [size_w8s, size_w8s, hx32]; rfl
      case h1 => exact one_w8s _
      simp only [Act.put]
      apply wpList_nil
      have hX : Bx (wr.alloc (.cells (w8s x) 34)) wr.heap.size (w8s x) 34 := heap_alloc_last wr _
      have hB2 := hB.alloc hB.size (.cells (w8s x) 34)
      generalize wr.alloc (.cells (w8s x) 34) = V at *
      generalize wr.heap.size = gx at *
      have hC0 : (fun U : World => Below w.heap.size w U ∧ Bx U gx (w8s x) 34) { V with drawn := V.drawn + 1 } := ⟨hB2.drew, hX⟩
      have CH2 := fun U (hU : Below w.heap.size w U ∧ Bx U gx (w8s x) 34) => (CH U hU.1).mono fun e w' q => (And.intro q.1 ⟨hU.1.trans (q.2.mono hU.1.size), hU.2.below hU.2.lt q.2⟩ : e = _ ∧ (Below w.heap.size w w' ∧ Bx w' gx (w8s x) 34))
      clear hrx hbb hB CH hB2 hX
      go_upto_region 4 with fail
      refine wp_region_class (C := fun U => Below w.heap.size w U ∧ Bx U gx (w8s x) 34) (by kernel_rfl) (by kernel_rfl) hC0 ?_
      refine gq_val (by kernel_rfl) (some 12) rfl (.slice (some ⟨b, off, none⟩) n c) (fun V hV => by kernel_rfl) ?_
      simp only [Act.put, List.setIfInBounds_toArray, List.set_cons_succ, List.set_cons_zero]
      refine gq_val (by kernel_rfl) (some 13) rfl (.int .i64 i) (fun V hV => by kernel_rfl) ?_
      simp only [Act.put, List.setIfInBounds_toArray, List.set_cons_succ, List.set_cons_zero]
      refine gq_val (by kernel_rfl) (some 14) rfl (.slice (some ⟨b, off, none⟩) i c) (fun U hU => slice_run rfl (by kernel_rfl) (by kernel_rfl) (cut_k_to (some ⟨b, off, none⟩) n c i U (by omega))) ?_
      simp only [Act.put, List.setIfInBounds_toArray, List.set_cons_succ, List.set_cons_zero]
      refine gq_load (by kernel_rfl) (some 15) rfl 34 (.tmp 4) rfl ⟨gx, 0, none⟩ (.agg (w8s x)) (by kernel_rfl) (fun U hU => load_key hU.2 hx32) ?_
      simp only [Act.put, List.setIfInBounds_toArray, List.set_cons_succ, List.set_cons_zero]
      refine gq_call (by kernel_rfl) (some 16) rfl 22 #[.slice (some ⟨b, off, none⟩) i c, .agg (w8s x)] (.bool false) (fun U hU => by kernel_rfl) CH2 ?_
      simp only [Act.put, List.setIfInBounds_toArray, List.set_cons_succ, List.set_cons_zero]
      apply wpQuiet_nil
      intro U hU
      have HV := Lib.hid hU.1
      clear hU hC0 CH2
      go_upto_region 6 with fail
      apply wp_region_lit
      refine gw_val (by kernel_rfl) (some 17) rfl (.int .i64 (i + 1 : Nat)) (add_one rfl i (by omega) (by kernel_rfl) _) ?_
      simp only [Act.put, List.setIfInBounds_toArray, List.set_cons_succ, List.set_cons_zero]
      refine gw_val (by kernel_rfl) (some 7) rfl (.int .i64 (i + 1 : Nat)) (by kernel_rfl) ?_
      simp only [Act.put, List.setIfInBounds_toArray, List.set_cons_succ, List.set_cons_zero]
      apply wpList_nil
      go_wp2_with fail
      go_roundg (gk - 1)
      case measure => have := HG.out; omega
      case rel => exact ⟨i + 1, rfl, HG.out.2.2, HV.out, HG.out.1⟩
    · have hd : decide (i < n) = false := decide_eq_false hlt
      have HV := Lib.hid hB
      clear hg hlt hi hB
      go_upto_region 2 with fail
      apply wp_region_lit
      refine gw_val (by kernel_rfl) (some 8) rfl (.bool (decide (i < n))) (lt_nat rfl i n (by kernel_rfl) (by kernel_rfl) _) ?_
      simp only [Act.put, List.setIfInBounds_toArray, List.set_cons_succ, List.set_cons_zero]
      rw [hd]
      apply wpList_nil
      go_upto_region 7 with fail
      apply wp_region_lit
      refine gw_val (by kernel_rfl) (some 2) rfl (.bool true) (by kernel_rfl) ?_
      simp only [Act.put, List.setIfInBounds_toArray, List.set_cons_succ, List.set_cons_zero]
      apply wpList_nil
      go_wp2_with fail
      go_ret
      exact ⟨rfl, HV.out⟩
end Go.Proofs.Ytjblfpifhbmfoaa
