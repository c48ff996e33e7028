/-
  strings.HasPrefix, the program's IsMemo: contracts. The program's Validate: contract. Slices of bytes handed back; a transaction's form in parts.
-/
import Derived.Test.YtglglhcnofbagaaJ6
import Derived.Laws.RangeString
namespace Go.Proofs.Ytglglhcnofbagaa
attribute [local irreducible] wpList wpQuiet
open Go.RowKit
set_option linter.unusedSimpArgs false
set_option linter.unusedVariables false

/-- Parts of a string. -/
theorem str_to (T : ByteArray) (h : Nat) (hh : h ≤ T.size) (w : World) : (Instr.slice 9 (.string T) none (some (.int .i64 (h : Int))) none).run Try.prog w = .ok (.string (T.extract 0 h)) w := by
 simp [Instr.slice, run_underlying Try.underlying9, Instr.sliceBounds, Instr.sliceBound, asIntOf, go_sem]
 intro h'
 omega
theorem str_from (T : ByteArray) (l : Nat) (hl : l ≤ T.size) (w : World) : (Instr.slice 9 (.string T) (some (.int .i64 (l : Int))) none none).run Try.prog w = .ok (.string (T.extract l T.size)) w := by
 simp [Instr.slice, run_underlying Try.underlying9, Instr.sliceBounds, Instr.sliceBound, asIntOf, go_sem]
 intro h'
 omega
theorem nums_ext (s : ByteArray) (a b : Nat) : nums (s.extract a b) = ((nums s).drop a).take (b - a) := by
 unfold nums
 rw [ByteArray.data_extract, Array.toList_extract, List.extract_eq_take_drop, List.map_take, List.map_drop]
theorem nums_inj {a b : ByteArray} (h : nums a = nums b) : a = b := by rw [← str_nums a, h, str_nums]
theorem beq_nums (a b : ByteArray) : (a == b) = decide (nums a = nums b) := by
 by_cases h : nums a = nums b
 ·rw [decide_eq_true h, nums_inj h, beq_toListBytes]
  simp
 ·rw [decide_eq_false h, Bool.eq_false_iff]
  intro e
  rw [beq_toListBytes] at e
  have e2 := eq_of_beq e
  rw [ByteArray.toList_eq, ByteArray.toList_eq] at e2
  exact h (by unfold nums; rw [e2])
/-- Does it begin so? -/
def hpr (s p : ByteArray) : Bool := decide (p.size ≤ s.size) && (s.extract 0 p.size == p)
set_option maxRecDepth 100000 in
set_option maxHeartbeats 8000000 in
theorem q_lite (s p : ByteArray) (w : World) (h1 : s.size ≤ 140737488355328) (h2 : p.size ≤ 140737488355328) : Calls Try.prog 95 #[.string s, .string p] w fun e w' => e = .returned (.bool (hpr s p)) ∧ w = w' := by
 unfold hpr
 have HX := fun (h : p.size ≤ s.size) => str_to s p.size h w
 obtain ⟨n, hn⟩ : ∃ n, s.size = n := ⟨_, rfl⟩
 obtain ⟨m, hm⟩ : ∃ m, p.size = m := ⟨_, rfl⟩
 rw [hn, hm] at HX ⊢
 by_cases hc : m ≤ n
 ·skip
  have hx := HX hc
  rw [decide_eq_true hc, Bool.true_and]
  generalize s.extract 0 m = u at *
  obtain ⟨tb, ht⟩ : ∃ tb, (u == p) = tb := ⟨_, rfl⟩
  rw [ht]
  clear HX
  go_enter Try.func95, Try.ntmps95
  go_upto_region 1 with fail
  refine wl <| gz1 (.string s) <| gzv (.int .i64 n) (by rw [← hn]; kernel_rfl) <| gz1 (.string p) <| gzv (.int .i64 m) (by rw [← hm]; kernel_rfl) <| gzb (geq_n rfl (n) (m) dT) <|
   gz3 (.bool true) (.string s) (.string p) <| gzv (.int .i64 m) (by rw [← hm]; kernel_rfl) ?_
  simp only [pu]
  refine gw_slice_to (by kernel_rfl) (some 14) rfl 9 (.tmp 11) (.tmp 13) rfl (.string s) (.int .i64 m) (.string u) (by kernel_rfl) (by kernel_rfl) hx ?_
  simp only [pu]
  refine gz1 (.string p) <| gzw (.bool tb) (eql_s rfl u p ht) <| gz2 (.bool tb) (.bool tb) <| wn ?_
  simp only [pu]
  go_wp2_with fail
  go_ret
  exact ⟨rfl, rfl⟩
 ·skip
  rw [decide_eq_false hc, Bool.false_and]
  clear HX
  go_enter Try.func95, Try.ntmps95
  go_upto_region 1 with fail
  refine wl <| gz1 (.string s) <| gzv (.int .i64 n) (by rw [← hn]; kernel_rfl) <| gz1 (.string p) <| gzv (.int .i64 m) (by rw [← hm]; kernel_rfl) <| gzb (geq_n rfl (n) (m) dF) <|
   gz6 (.bool false) undef undef undef undef undef <| gz3 undef (.bool false) (.bool false) <| wn ?_
  simp only [pu]
  go_wp2_with fail
  go_ret
  exact ⟨rfl, rfl⟩
set_option maxRecDepth 100000 in
set_option maxHeartbeats 8000000 in
theorem q_prefix (s p : ByteArray) (w : World) (h1 : s.size ≤ 140737488355328) (h2 : p.size ≤ 140737488355328) : Calls Try.prog 86 #[.string s, .string p] w fun e w' => e = .returned (.bool (hpr s p)) ∧ w = w' := by
 have CL := q_lite s p w h1 h2
 generalize hpr s p = tb at *
 go_enter Try.func86, Try.ntmps86
 go_upto_region 1 with fail
 refine wl <| gz2 (.string s) (.string p) <| gzc (.bool tb) (fun w' => w = w') (CL) (fun V9 hV9 => ?_)
 subst hV9
 simp only [pu]
 refine gz1 (.bool tb) <| wn ?_
 simp only [pu]
 go_wp2_with fail
 go_ret
 exact ⟨rfl, rfl⟩
/-- The bytes of U+FFFD. -/
def repS : ByteArray := ⟨#[239, 191, 189]⟩
theorem take3 (L : List Int) (i : Nat) (h : i + 3 ≤ L.length) : (L.drop i).take 3 = [L.getD i 0, L.getD (i + 1) 0, L.getD (i + 2) 0] := by
 rw [List.drop_eq_getElem_cons (by omega), List.take_succ_cons, List.drop_eq_getElem_cons (by omega), List.take_succ_cons, List.drop_eq_getElem_cons (by omega), List.take_succ_cons, List.take_zero]
 simp [List.getD_eq_getElem?_getD, List.getElem?_eq_getElem (show i < L.length by omega), List.getElem?_eq_getElem (show i + 1 < L.length by omega), List.getElem?_eq_getElem (show i + 2 < L.length by omega)]
theorem hpr_rep (s : ByteArray) (i : Nat) (hi : i ≤ s.size) : hpr (s.extract i s.size) repS = decide (i + 3 ≤ s.size ∧ (nums s).getD i 0 = 239 ∧ (nums s).getD (i + 1) 0 = 191 ∧ (nums s).getD (i + 2) 0 = 189) := by
 have e1 : (s.extract i s.size).size = s.size - i := by rw [← nums_len, nums_ext, List.length_take, List.length_drop, nums_len]; omega
 have e2 : repS.size = 3 := rfl
 have e3 : nums repS = [239, 191, 189] := by decide +kernel
 unfold hpr
 rw [e1, e2, beq_nums, e3, nums_ext, nums_ext, List.drop_zero]
 by_cases h : i + 3 ≤ s.size
 ·rw [decide_eq_true (show 3 ≤ s.size - i by omega), Bool.true_and]
  have e4 : ((((nums s).drop i).take (s.size - i)).take (3 - 0)) = [(nums s).getD i 0, (nums s).getD (i + 1) 0, (nums s).getD (i + 2) 0] := by
   rw [List.take_take, show min (3 - 0) (s.size - i) = 3 by omega]
   exact take3 _ _ (by rw [nums_len]; exact h)
  rw [e4, decide_eq_decide]
  simp [h]
 ·rw [decide_eq_false (show ¬ 3 ≤ s.size - i by omega), Bool.false_and, eq_comm]
  exact decide_eq_false (fun q => h q.1)
theorem getD_byte (s : ByteArray) (j : Nat) : 0 ≤ (nums s).getD j 0 ∧ (nums s).getD j 0 < 256 := by
 rw [get_nums]
 have := (s.get! j).toNat_lt
 omega
/-- A rune that reads as U+FFFD is it, or is none. -/
theorem rep_yes (s : ByteArray) (i : Nat) (hi : i < s.size) (hk : runK (nums s) i ≠ 0) (hv : runV (nums s) i = 65533) : hpr (s.extract i s.size) repS = true := by
 rw [hpr_rep s i (by omega)]
 have h3 := run_fffd (getD_byte s) hk hv
 have hl := run_len (L := nums s) (i := i) (by rw [nums_len]; exact hi)
 rw [h3, nums_len] at hl
 have h0 := getD_byte s i
 have h1 := getD_byte s (i + 1)
 have h2 := getD_byte s (i + 2)
 have hr := h3
 unfold runK runN at hr
 unfold runV at hv
 rw [h3] at hv
 have e : ((nums s).getD i 0 - 224) * 4096 + ((nums s).getD (i + 1) 0 - 128) * 64 + ((nums s).getD (i + 2) 0 - 128) = 65533 := hv
 refine decide_eq_true ⟨hl, ?_⟩
 have f1 : fol (nums s) (i + 1) = true ∧ fol (nums s) (i + 2) = true := by
  split at hr
  ·omega
  split at hr
  ·omega
  split at hr
  ·rename_i q
   exact ⟨q.1.2, q.2⟩
  split at hr
  ·split at hr <;> omega
  ·omega
 have g1 := fol_rng f1.1
 have g2 := fol_rng f1.2
 omega
theorem rep_no (s : ByteArray) (i : Nat) (hi : i < s.size) (hk : runK (nums s) i = 0) : hpr (s.extract i s.size) repS = false := by
 rw [hpr_rep s i (by omega)]
 refine decide_eq_false fun ⟨hl, e0, e1, e2⟩ => ?_
 have f1 : fol (nums s) (i + 1) = true := by
  unfold fol
  rw [e1, nums_len, decide_eq_true (show i + 1 < s.size by omega)]
  rfl
 have f2 : fol (nums s) (i + 2) = true := by
  unfold fol
  rw [e2, nums_len, decide_eq_true (show i + 2 < s.size by omega)]
  rfl
 unfold runK runN at hk
 rw [e0, e1, f1, f2] at hk
 simp at hk
theorem run_next_str (w : World) (s : ByteArray) (pos : Nat) (ty : TypeId) (h : pos < s.size) :
  (Instr.next (.pointer (some ⟨w.heap.size, 0, none⟩)) true ty).run Try.prog (w.iter s pos) =
   .ok (.tuple #[.bool true, .int .i64 pos, .int .i32 (Utf8.decode s pos).1]) (w.iter s (pos + (Utf8.decode s pos).2)) := by
 simp only [Instr.next, getObj, setObj, Sem.run_bind, Sem.run, World.iter_heap, Result.andThen, h, if_true, World.iter_set]
 simp [goInt, Sem.run, World.iter_heap, World.iter_set]
theorem ex_next {ρ : Operand → Value} {o : Oper} {x : Operand} (ho : o.op = .next x true) (w : World) (s : ByteArray) (pos : Nat) (h : pos < s.size) (hx : ρ x = .pointer (some ⟨w.heap.size, 0, none⟩)) :
  (execOp ρ o).run Try.prog (w.iter s pos) = .ok (.value (.tuple #[.bool true, .int .i64 pos, .int .i32 (Utf8.decode s pos).1])) (w.iter s (pos + (Utf8.decode s pos).2)) := by
 unfold execOp
 simp only [ho, hx, Sem.run_bind, run_next_str w s pos _ h]
 rfl
theorem ex_over {ρ : Operand → Value} {o : Oper} {x : Operand} (ho : o.op = .next x true) (w : World) (s : ByteArray) (pos : Nat) (h : ¬ pos < s.size) (hx : ρ x = .pointer (some ⟨w.heap.size, 0, none⟩)) :
  (execOp ρ o).run Try.prog (w.iter s pos) = .ok (.value (.tuple #[.bool false])) (w.iter s pos) := by
 unfold execOp
 simp only [ho, hx, Sem.run_bind, run_next_end w s pos _ h]
 rfl
theorem ex_range {ρ : Operand → Value} {o : Oper} {x : Operand} (ho : o.op = .range 9 x) (w : World) (s : ByteArray) (hx : ρ x = .string s) :
  (execOp ρ o).run Try.prog w = .ok (.value (.pointer (some ⟨w.heap.size, 0, none⟩))) (w.iter s 0) := by
 unfold execOp
 simp only [ho, hx, Sem.run_bind, run_range_string w _ s Try.underlying9]
 rfl
theorem eql_r {ρ : Operand → Value} {o : Oper} {x y : Operand} (ho : o.op = .binOp .eql 21 x y 21) (a b : Int) {t : Bool} (ht : decide (a = b) = t) (hx : ρ x = .int .i32 a) (hy : ρ y = .int .i32 b) (w : World) : (execOp ρ o).run Try.prog w = .ok (.value (.bool t)) w := by
 have e : (a == b) = t := ht
 unfold execOp
 simp only [ho, hx, hy]
 go_simp
theorem memo_big {L : List Int} {i m : Nat} (h : Ran L i m) (hm : 64 < m) : isMemo L = false := by
 unfold isMemo Ran at *
 rw [h]
 cases runs L i with
 | none => rfl
 | some k =>
  show decide (k + m ≤ 64) = false
  exact decide_eq_false (by omega)
theorem memo_bad {L : List Int} (h : runs L 0 = none) : isMemo L = false := by unfold isMemo; rw [h]
theorem memo_ok {L : List Int} {m : Nat} (h : runs L 0 = some m) (hm : m ≤ 64) : isMemo L = true := by unfold isMemo; rw [h]; exact decide_eq_true hm
theorem below_iter (w : World) (s : ByteArray) (i : Nat) : Below w.heap.size w (w.iter s i) := (Below.refl _ w).alloc (Nat.le_refl _) _
theorem ext_size (s : ByteArray) (i : Nat) : (s.extract i s.size).size = s.size - i := by rw [← nums_len, nums_ext, List.length_take, List.length_drop, nums_len]; omega
set_option maxRecDepth 100000 in
set_option maxHeartbeats 8000000 in
theorem q_ismemo (s : ByteArray) (w : World) (hl : s.size ≤ 140737488355328) : Calls Try.prog 75 #[.string s] w fun e w' => e = .returned (.bool (isMemo (nums s))) ∧ Below w.heap.size w w' := by
 have HRN := Lib.hid (fun (ρ : Operand → Value) (o : Oper) (x : Operand) ho hx => ex_range (ρ := ρ) (o := o) (x := x) ho w s hx)
 have HOV := Lib.hid (fun (ρ : Operand → Value) (o : Oper) (x : Operand) ho i h hx => ex_over (ρ := ρ) (o := o) (x := x) ho w s i h hx)
 have HNX := Lib.hid (fun (ρ : Operand → Value) (o : Oper) (x : Operand) ho i h hx => ex_next (ρ := ρ) (o := o) (x := x) ho w s i h hx)
 have HDC := Lib.hid (dec_run s)
 have HYS := Lib.hid (rep_yes s)
 have HNO := Lib.hid (rep_no s)
 have HCP := Lib.hid (fun i V => q_prefix (s.extract i s.size) repS V (by rw [ext_size]; omega) (by decide))
 have HSF := Lib.hid (fun i (h : i ≤ s.size) V => str_from s i h V)
 have HL := Lib.hid (nums_len s)
 have HB := Lib.hid (below_iter w s)
 obtain ⟨L, hL⟩ : ∃ L, nums s = L := ⟨_, rfl⟩
 rw [hL] at HDC HYS HNO HL ⊢
 have HR0 := Lib.hid (Ran.zero L)
 obtain ⟨r, hr⟩ : ∃ r, isMemo L = r := ⟨_, rfl⟩
 have HRV := Lib.hid hr
 rw [hr]
 clear hL hr
 obtain ⟨n, hn⟩ : ∃ n, s.size = n := ⟨_, rfl⟩
 have HN := Lib.hid hn
 rw [hn] at hl HYS HNO HL HOV HNX HCP HSF
 obtain ⟨WI, hWI⟩ : ∃ WI : Nat → World, (fun i => w.iter s i) = WI := ⟨_, rfl⟩
 have HWI : ∀ i, w.iter s i = WI i := fun i => congrFun hWI i
 simp only [HWI] at HRN HOV HNX HB
 obtain ⟨q, hq⟩ : ∃ q, w.heap.size = q := ⟨_, rfl⟩
 have HQ := Lib.hid hq
 rw [hq] at HRN HOV HNX
 clear hq hn hWI HWI
 go_enter Try.func75, Try.ntmps75
 go_upto_region 1 with fail
 refine wl <| gz1 (.int .i64 0) <| wn ?_
 simp only [pu]
 go_upto_region 2 with fail
 refine wl <| gz1 (.string s) ?_
 simp only [pu]
 refine gw_new (by kernel_rfl) (some 7) rfl (.pointer (some ⟨q, 0, none⟩)) (WI 0) (HRN.out _ _ _ rfl (by kernel_rfl)) ?_
 simp only [pu]
 apply wpList_nil
 clear HRN
 go_wp2_with fail
 go_loopg [3] n (fun gg s3 wx => ∃ i m : Nat, s3 = .int .i64 m ∧ i ≤ n ∧ m ≤ 64 ∧ Hid (Ran L i m) ∧ wx = WI i ∧ n - i ≤ gg)
 case atStart => exact ⟨0, 0, rfl, by omega, by omega, HR0, rfl, by omega⟩
 case round =>
  obtain ⟨i, m, rfl, hi, hm, HM, rfl, hg⟩ := hrel
  clear HR0
  by_cases hlt : i < n
  ·skip
   have hk4 := run_le L i
   have hkl := run_len (L := L) (i := i) (by rw [HL.out]; omega)
   have HST := Lib.hid (HM.out.step (by rw [HL.out]; omega))
   have HBD := Lib.hid (HM.out.bad (by rw [HL.out]; omega))
   rw [HL.out] at hkl
   have hdc := HDC.out i
   have hys := HYS.out i hlt
   have hno := HNO.out i hlt
   have hcp := HCP.out i
   have hsf := HSF.out i hi
   have hnx := fun ρ o x ho hx => HNX.out ρ o x ho i hlt hx
   obtain ⟨d1, hd1⟩ : ∃ d1 : Int, ((Utf8.decode s i).1 : Int) = d1 := ⟨_, rfl⟩
   rw [hd1] at hdc hnx
   generalize (Utf8.decode s i).2 = d2 at *
   generalize runK L i = k at *
   generalize runV L i = v at *
   generalize hpr (s.extract i n) repS = hb at *
   generalize s.extract i n = u at *
   clear HM HDC HYS HNO HCP HSF HNX HOV hd1
   obtain ⟨hdc2, hdc1⟩ := hdc
   go_upto_region 3 with fail
   by_cases hk : k = 0
   ·skip
    rw [if_pos hk] at hdc1 hdc2
    have HHB := hno hk
    have HE : Hid (r = false) := Lib.hid (by rw [← HRV.out]; exact memo_bad (HBD.out hk))
    have HB2 := Lib.hid (HB.out (i + d2))
    clear hys hno HST HBD HRV HB hk hkl hk4 hdc2 hg
    apply wp_region_lit
    refine gw_new (by kernel_rfl) (some 8) rfl (.tuple #[.bool true, .int .i64 i, .int .i32 d1]) (WI (i + d2)) (hnx _ _ _ rfl (by kernel_rfl)) ?_
    simp only [pu]
    refine gz1 (.bool true) <| wn ?_
    simp only [pu]
    clear hnx
    go_upto_region 4 with fail
    refine wl <| gz4 (.int .i64 i) (.int .i32 d1) (.int .i64 i) (.int .i32 d1) <| wn ?_
    simp only [pu]
    have CP := hcp (WI (i + d2))
    rw [HHB] at CP
    clear hcp HHB
    go_upto_region 5 with fail
    refine wl <| gz1 (.int .i32 d1) <| gzb (eql_r rfl (d1) (65533) (decide_eq_true (hdc1))) <| gz3 (.bool true) (.string s) (.int .i64 i) ?_
    simp only [pu]
    refine gw_slice_hi (by kernel_rfl) (some 17) rfl 9 (.tmp 15) (.tmp 16) rfl (.string s) (.int .i64 i) (.string u) (by kernel_rfl) (by kernel_rfl) (hsf _) ?_
    simp only [pu]
    refine gzc (.bool false) (fun w' => WI (i + d2) = w') (CP) (fun V9 hV9 => ?_)
    subst hV9
    simp only [pu]
    refine gz2 (.bool true) (.bool true) <| wn ?_
    simp only [pu]
    clear CP hsf
    go_upto_region 6 with fail
    refine wl <| gz1 (.bool false) <| wn ?_
    simp only [pu]
    go_wp2_with fail
    go_ret
    rw [HE.out]
    exact ⟨rfl, HB2.out⟩
   ·skip
    rw [if_neg hk] at hdc1 hdc2
    have HS2 := Lib.hid (HST.out hk)
    have HBG : Hid (64 < m + 1 → r = false) := Lib.hid fun h => by rw [← HRV.out]; exact memo_big HS2.out h
    have HB2 := Lib.hid (HB.out (i + d2))
    have HG : Hid (0 < k ∧ i + k ≤ n ∧ i < n ∧ n - i ≤ gk ∧ d2 = k) := Lib.hid ⟨by omega, hkl, hlt, hg, hdc2⟩
    clear hno HST HBD hkl hk4 hdc2 hg
    apply wp_region_lit
    refine gw_new (by kernel_rfl) (some 8) rfl (.tuple #[.bool true, .int .i64 i, .int .i32 d1]) (WI (i + d2)) (hnx _ _ _ rfl (by kernel_rfl)) ?_
    simp only [pu]
    refine gz1 (.bool true) <| wn ?_
    simp only [pu]
    clear hnx
    go_upto_region 4 with fail
    refine wl <| gz4 (.int .i64 i) (.int .i32 d1) (.int .i64 i) (.int .i32 d1) <| wn ?_
    simp only [pu]
    go_upto_region 5 with fail
    by_cases hv : v = 65533
    ·skip
     have HHB := hys hk hv
     rw [hv] at hdc1
     have CP := hcp (WI (i + d2))
     rw [HHB] at CP
     clear hcp HHB hys hv hk
     refine wl <| gz1 (.int .i32 d1) <| gzb (eql_r rfl (d1) (65533) (decide_eq_true (hdc1))) <| gz3 (.bool true) (.string s) (.int .i64 i) ?_
     simp only [pu]
     refine gw_slice_hi (by kernel_rfl) (some 17) rfl 9 (.tmp 15) (.tmp 16) rfl (.string s) (.int .i64 i) (.string u) (by kernel_rfl) (by kernel_rfl) (hsf _) ?_
     simp only [pu]
     refine gzc (.bool true) (fun w' => WI (i + d2) = w') (CP) (fun V9 hV9 => ?_)
     subst hV9
     simp only [pu]
     refine gz2 (.bool false) (.bool false) <| wn ?_
     simp only [pu]
     clear CP hsf hdc1
     have HD2 := Lib.hid HG.out.2.2.2.2
     go_upto_region 7 with fail
     refine wl <| gz1 (.int .i64 m) <| gzw (.int .i64 (m + 1 : Nat)) (add_nat rfl m 1 (by omega)) <| gz1 (.int .i64 (m + 1 : Nat)) <| wn ?_
     simp only [pu]
     go_upto_region 8 with fail
     by_cases hm2 : 64 < m + 1
     ·skip
      have HE := Lib.hid (HBG.out hm2)
      clear HBG HRV HB
      refine wl <| gz1 (.int .i64 (m + 1 : Nat)) <| gzb (gtr_n rfl ((m + 1 : Nat)) (64) dT) <| wn ?_
      simp only [pu]
      go_upto_region 9 with fail
      refine wl <| gz1 (.bool false) <| wn ?_
      simp only [pu]
      go_wp2_with fail
      go_ret
      rw [HE.out]
      exact ⟨rfl, HB2.out⟩
     ·skip
      clear HBG
      refine wl <| gz1 (.int .i64 (m + 1 : Nat)) <| gzb (gtr_n rfl ((m + 1 : Nat)) (64) dF) <| wn ?_
      simp only [pu]
      go_wp2_with fail
      go_roundg (n - (i + k))
      case measure => have := HG.out; omega
      case rel => exact ⟨i + k, m + 1, rfl, HG.out.2.1, by omega, HS2, by rw [HD2.out], Nat.le_refl _⟩
    ·skip
     have hd65 : ¬ d1 = 65533 := by rw [hdc1]; exact hv
     clear hcp hys hdc1 hsf hv hk
     refine wl <| gz1 (.int .i32 d1) <| gzb (eql_r rfl (d1) (65533) (decide_eq_false (hd65))) <| gz6 (.bool false) undef undef undef undef undef <| gz1 (.bool false) <| wn ?_
     simp only [pu]
     clear hd65
     have HD2 := Lib.hid HG.out.2.2.2.2
     go_upto_region 7 with fail
     refine wl <| gz1 (.int .i64 m) <| gzw (.int .i64 (m + 1 : Nat)) (add_nat rfl m 1 (by omega)) <| gz1 (.int .i64 (m + 1 : Nat)) <| wn ?_
     simp only [pu]
     go_upto_region 8 with fail
     by_cases hm2 : 64 < m + 1
     ·skip
      have HE := Lib.hid (HBG.out hm2)
      clear HBG HRV HB
      refine wl <| gz1 (.int .i64 (m + 1 : Nat)) <| gzb (gtr_n rfl ((m + 1 : Nat)) (64) dT) <| wn ?_
      simp only [pu]
      go_upto_region 9 with fail
      refine wl <| gz1 (.bool false) <| wn ?_
      simp only [pu]
      go_wp2_with fail
      go_ret
      rw [HE.out]
      exact ⟨rfl, HB2.out⟩
     ·skip
      clear HBG
      refine wl <| gz1 (.int .i64 (m + 1 : Nat)) <| gzb (gtr_n rfl ((m + 1 : Nat)) (64) dF) <| wn ?_
      simp only [pu]
      go_wp2_with fail
      go_roundg (n - (i + k))
      case measure => have := HG.out; omega
      case rel => exact ⟨i + k, m + 1, rfl, HG.out.2.1, by omega, HS2, by rw [HD2.out], Nat.le_refl _⟩
  ·skip
   have HE : Hid (r = true) := Lib.hid (by rw [← HRV.out]; exact memo_ok (HM.out.done (by rw [HL.out]; omega)) hm)
   have HB2 := Lib.hid (HB.out i)
   have hov := fun ρ o x ho hx => HOV.out ρ o x ho i hlt hx
   clear HM HRV HB hg HOV HNX HDC HYS HNO HCP HSF
   go_upto_region 3 with fail
   refine wl <| gzv (.tuple #[.bool false]) (hov _ _ _ rfl (by kernel_rfl)) <| gz1 (.bool false) <| wn ?_
   simp only [pu]
   go_upto_region 10 with fail
   refine wl <| gz1 (.bool true) <| wn ?_
   simp only [pu]
   go_wp2_with fail
   go_ret
   rw [HE.out]
   exact ⟨rfl, HB2.out⟩
end Go.Proofs.Ytglglhcnofbagaa
namespace Go.Proofs.Ytglglhcnofbagaa
attribute [local irreducible] wpList wpQuiet
open Go.RowKit
set_option linter.unusedSimpArgs false
set_option linter.unusedVariables false

set_option maxRecDepth 100000 in
set_option maxHeartbeats 8000000 in
theorem q_validate (x : Txd) (a : Option Addr) (c : Nat) (w : World) (hR : Cs w a (tfc x.tr)) (h2 : x.memo.size ≤ 140737488355328) :
  Calls Try.prog 51 #[.agg (txA x a c)] w fun e w' => e = .returned (.int .i64 (valX x)) ∧ Below w.heap.size w w' := by
 have hb0 : Below w.heap.size w (w.alloc (.cells (txA x a c) 32)) := (Below.refl _ w).alloc (Nat.le_refl _) _
 have hX0 : Bx (w.alloc (.cells (txA x a c) 32)) w.heap.size (txA x a c) 32 := heap_alloc_last w _
 have HA := Lib.hid (hR.below hb0)
 have CN := Lib.hid (fun V => q_isname x.snd V)
 have CM := Lib.hid (fun V => q_ismemo x.memo V h2)
 have HV : Hid (valX x = if isName (nums x.snd) = false then 10 else if x.gas = 0 then 15 else if isMemo (nums x.memo) = false then 11 else if x.tr.length = 0 ∨ 16 < x.tr.length then 3 else valT x.tr) := Lib.hid rfl
 have HT := Lib.hid (fun j (hj : j < x.tr.length) V => q_isname (tfa x.tr j).1 V)
 obtain ⟨snd, sq, gas, fee, memo, M⟩ := x
 simp only [txA] at hb0 hX0 HA ⊢
 dsimp only at *
 have HO := Lib.hid (Okt.zero M)
 generalize valX _ = r at *
 generalize isName (nums snd) = t1 at *
 generalize isMemo (nums memo) = t2 at *
 obtain ⟨n, hn⟩ : ∃ n, M.length = n := ⟨_, rfl⟩
 have HN := Lib.hid hn
 rw [hn] at hb0 hX0 HA HV ⊢
 clear hR h2
 go_enter Try.func51, Try.ntmps51
 go_upto_region 1 with fail
 change Code.wp _ _ _ _ (w.alloc (.cells #[.string snd, .int .u64 sq, .int .u64 gas, .int .u64 fee, .string memo, .slice a n c] 32))
 generalize w.alloc (.cells #[.string snd, .int .u64 sq, .int .u64 gas, .int .u64 fee, .string memo, .slice a n c] 32) = W at *
 obtain ⟨g0, hg0⟩ : ∃ g0, w.heap.size = g0 := ⟨_, rfl⟩
 have HB0 := Lib.hid hb0
 have HG0 := Lib.hid (hX0.lt)
 have HGE : Hid (g0 ≤ w.heap.size ∧ w.heap.size ≤ g0) := Lib.hid ⟨by omega, by omega⟩
 rw [hg0] at hX0 HG0
 simp only [hg0]
 clear hb0 hg0 hn
 have CNW := CN.out W
 clear CN
 cases t1
 ·skip
  refine wl <| gz1 (.pointer (some ⟨g0, 0, none⟩)) <| gzl rfl ⟨g0, 0, none⟩ (.string snd) (hX0.load (i := 0) rfl (by kernel_rfl)) <| gzc (.bool false) (fun w' => Below W.heap.size W w') (CNW) (fun V hV => ?_)
  simp only [pu]
  refine gz2 (.bool true) (.bool true) <| wn ?_
  simp only [pu]
  have hX1 := hX0.below HG0.out hV
  have HB1 := Lib.hid (HB0.out.trans (hV.mono HB0.out.size))
  have HA1 := Lib.hid (HA.out.below hV)
  clear hV CNW hX0 HB0 HA HG0
  have HE : Hid (r = 10) := Lib.hid (by rw [HV.out]; rfl)
  clear HV
  go_upto_region 2 with fail
  refine wl <| gz1 (.int .i64 10) <| wn ?_
  simp only [pu]
  go_wp2_with fail
  go_ret
  rw [HE.out]
  exact ⟨rfl, HB1.out⟩
 ·skip
  refine wl <| gz1 (.pointer (some ⟨g0, 0, none⟩)) <| gzl rfl ⟨g0, 0, none⟩ (.string snd) (hX0.load (i := 0) rfl (by kernel_rfl)) <| gzc (.bool true) (fun w' => Below W.heap.size W w') (CNW) (fun V hV => ?_)
  simp only [pu]
  refine gz2 (.bool false) (.bool false) <| wn ?_
  simp only [pu]
  have hX1 := hX0.below HG0.out hV
  have HB1 := Lib.hid (HB0.out.trans (hV.mono HB0.out.size))
  have HA1 := Lib.hid (HA.out.below hV)
  clear hV CNW hX0 HB0 HA HG0
  go_upto_region 3 with fail
  by_cases hgas : gas = 0
  ·skip
   refine wl <| gz1 (.pointer (some ⟨g0, 2, none⟩)) <| gzl rfl ⟨g0, 2, none⟩ (.int .u64 gas) (hX1.load (i := 2) rfl (by kernel_rfl)) <| gzb (eql_u0 rfl gas (decide_eq_true hgas)) <| gz1 (.bool true) <| wn ?_
   simp only [pu]
   have HE : Hid (r = 15) := Lib.hid (by rw [HV.out]; rw [if_neg (by decide), if_pos hgas])
   clear HV
   go_upto_region 4 with fail
   refine wl <| gz1 (.int .i64 15) <| wn ?_
   simp only [pu]
   go_wp2_with fail
   go_ret
   rw [HE.out]
   exact ⟨rfl, HB1.out⟩
  ·skip
   refine wl <| gz1 (.pointer (some ⟨g0, 2, none⟩)) <| gzl rfl ⟨g0, 2, none⟩ (.int .u64 gas) (hX1.load (i := 2) rfl (by kernel_rfl)) <| gzb (eql_u0 rfl gas (decide_eq_false hgas)) <| gz1 (.bool false) <| wn ?_
   simp only [pu]
   have CMV := CM.out V
   clear CM
   go_upto_region 5 with fail
   cases t2
   ·skip
    refine wl <| gz1 (.pointer (some ⟨g0, 4, none⟩)) <| gzl rfl ⟨g0, 4, none⟩ (.string memo) (hX1.load (i := 4) rfl (by kernel_rfl)) <| gzc (.bool false) (fun w' => Below V.heap.size V w') (CMV) (fun U hV => ?_)
    simp only [pu]
    refine gz2 (.bool true) (.bool true) <| wn ?_
    simp only [pu]
    have hX2 := hX1.below hX1.lt hV
    have HB2 := Lib.hid (HB1.out.trans (hV.mono HB1.out.size))
    have HA2 := Lib.hid (HA1.out.below hV)
    clear hV CMV hX1 HB1 HA1
    have HE : Hid (r = 11) := Lib.hid (by rw [HV.out]; rw [if_neg (by decide), if_neg hgas, if_pos rfl])
    clear HV
    go_upto_region 6 with fail
    refine wl <| gz1 (.int .i64 11) <| wn ?_
    simp only [pu]
    go_wp2_with fail
    go_ret
    rw [HE.out]
    exact ⟨rfl, HB2.out⟩
   ·skip
    refine wl <| gz1 (.pointer (some ⟨g0, 4, none⟩)) <| gzl rfl ⟨g0, 4, none⟩ (.string memo) (hX1.load (i := 4) rfl (by kernel_rfl)) <| gzc (.bool true) (fun w' => Below V.heap.size V w') (CMV) (fun U hV => ?_)
    simp only [pu]
    refine gz2 (.bool false) (.bool false) <| wn ?_
    simp only [pu]
    have hX2 := hX1.below hX1.lt hV
    have HB2 := Lib.hid (HB1.out.trans (hV.mono HB1.out.size))
    have HA2 := Lib.hid (HA1.out.below hV)
    clear hV CMV hX1 HB1 HA1
    go_upto_region 7 with fail
    rcases (show n = 0 ∨ 16 < n ∨ (0 < n ∧ n ≤ 16) by omega) with hc | hc | hc
    ·skip
     refine wl <| gz1 (.pointer (some ⟨g0, 5, none⟩)) <| gzl rfl ⟨g0, 5, none⟩ (.slice a n c) (hX2.load (i := 5) rfl (by kernel_rfl)) <| gz1 (.int .i64 n) <| gzb (lss_n rfl (n) (1) dT) <|
      gz6 (.bool true) undef undef undef undef (.bool true) <| gz1 (.bool true) <| wn ?_
     simp only [pu]
     have HE : Hid (r = 3) := Lib.hid (by rw [HV.out]; rw [if_neg (by decide), if_neg hgas, if_neg (by decide), if_pos (.inl hc)])
     clear HV
     go_upto_region 8 with fail
     refine wl <| gz1 (.int .i64 3) <| wn ?_
     simp only [pu]
     go_wp2_with fail
     go_ret
     rw [HE.out]
     exact ⟨rfl, HB2.out⟩
    ·skip
     refine wl <| gz1 (.pointer (some ⟨g0, 5, none⟩)) <| gzl rfl ⟨g0, 5, none⟩ (.slice a n c) (hX2.load (i := 5) rfl (by kernel_rfl)) <| gz1 (.int .i64 n) <| gzb (lss_n rfl (n) (1) dF) <|
      gz2 (.bool false) (.pointer (some ⟨g0, 5, none⟩)) <| gzl rfl ⟨g0, 5, none⟩ (.slice a n c) (hX2.load (i := 5) rfl (by kernel_rfl)) <| gz1 (.int .i64 n) <| gzb (gtr_n rfl (n) (16) dT) <| gz2 (.bool true) (.bool true) <|
      wpList_nil ?_
     simp only [pu]
     have HE : Hid (r = 3) := Lib.hid (by rw [HV.out]; rw [if_neg (by decide), if_neg hgas, if_neg (by decide), if_pos (.inr hc)])
     clear HV
     go_upto_region 8 with fail
     refine wl <| gz1 (.int .i64 3) <| wn ?_
     simp only [pu]
     go_wp2_with fail
     go_ret
     rw [HE.out]
     exact ⟨rfl, HB2.out⟩
    ·skip
     refine wl <| gz1 (.pointer (some ⟨g0, 5, none⟩)) <| gzl rfl ⟨g0, 5, none⟩ (.slice a n c) (hX2.load (i := 5) rfl (by kernel_rfl)) <| gz1 (.int .i64 n) <| gzb (lss_n rfl (n) (1) dF) <|
      gz2 (.bool false) (.pointer (some ⟨g0, 5, none⟩)) <| gzl rfl ⟨g0, 5, none⟩ (.slice a n c) (hX2.load (i := 5) rfl (by kernel_rfl)) <| gz1 (.int .i64 n) <| gzb (gtr_n rfl (n) (16) dF) <|
      gz2 (.bool false) (.bool false) <| wn ?_
     simp only [pu]
     have HE : Hid (r = valT M) := Lib.hid (by rw [HV.out, if_neg (by decide), if_neg hgas, if_neg (by decide), if_neg (by omega)])
     clear HV
     go_upto_region 9 with fail
     refine wl <| gz1 (.pointer (some ⟨g0, 5, none⟩)) <| gzl rfl ⟨g0, 5, none⟩ (.slice a n c) (hX2.load (i := 5) rfl (by kernel_rfl)) <| gz2 (.int .i64 n) (.int .i64 0) <| wn ?_
     simp only [pu]
     have HS0 := Lib.hid hX2
     clear hX2
     go_wp2_with fail
     go_loopg [33] n (fun gg s33 wx => ∃ j : Nat, s33 = .int .i64 j ∧ j ≤ n ∧ Hid (Okt M j) ∧ Hid (Below U.heap.size U wx) ∧ n - j = gg)
     case atStart => exact ⟨0, rfl, by omega, HO, Lib.hid (Below.refl _ _), by omega⟩
     case round =>
      obtain ⟨j, rfl, hj, HK, HB, hg⟩ := hrel
      clear HO
      by_cases hlt : j < n
      ·skip
       have HG : Hid (n - (j + 1) = gk - 1 ∧ 0 < gk ∧ j + 1 ≤ n) := Lib.hid ⟨by omega, by omega, by omega⟩
       have hjm : j < M.length := by rw [HN.out]; exact hlt
       obtain ⟨b, off, rfl, -, hrx⟩ := tf_range (HA2.out.below HB.out) (k := j) hjm
       have HLD := Lib.hid (load_tf hrx)
       have CT := Lib.hid (fun V => HT.out j hjm V)
       have HK1 := Lib.hid (HK.out.name hjm)
       have HK2 := Lib.hid (HK.out.zam hjm)
       have HK3 := Lib.hid (HK.out.step hjm)
       generalize tfa M j = y at *
       obtain ⟨V2, hst, hb2, hbx⟩ := new_tf wr y
       have HBV := Lib.hid (HB.out.trans (hb2.mono HB.out.size))
       clear hrx hb2 HK HB hjm hg
       go_upto_region 10 with fail
       refine wl <| gzb (lss_n rfl (j) (n) dT) <| wn ?_
       simp only [pu]
       go_upto_region 11 with fail
       refine wl <| gzv (.pointer (some ⟨b, off + j * 2, none⟩)) (idx_tf b off n c j hlt _ _ _ rfl (by kernel_rfl) (by kernel_rfl)) <| gzl rfl ⟨b, off + j * 2, none⟩ (.agg (tfA y)) (HLD.out) ?_
       simp only [pu]
       refine run_to rfl (some 4) rfl (.pointer (some ⟨wr.heap.size, 0, none⟩)) (wr.alloc (.cells (tfA zTf) 35)) (by kernel_rfl) ?_
       simp only [pu]
       refine gzs rfl (hst) <| wn ?_
       obtain ⟨g4, hg4⟩ : ∃ g4, wr.heap.size = g4 := ⟨_, rfl⟩
       rw [hg4] at hbx ⊢
       clear hst hg4 HLD
       have CTV := CT.out V2
       clear CT
       generalize isName (nums y.1) = ty at *
       go_upto_region 12 with fail
       cases ty
       ·skip
        refine wl <| gz1 (.pointer (some ⟨g4, 0, none⟩)) <| gzl rfl ⟨g4, 0, none⟩ (.string y.1) (hbx.load (i := 0) rfl (by kernel_rfl)) <| gzc (.bool false) (fun w' => Below V2.heap.size V2 w') (CTV) (fun V3 hV => ?_)
        simp only [pu]
        refine gz1 (.bool true) <| wn ?_
        simp only [pu]
        have HBW := Lib.hid (HBV.out.trans (hV.mono HBV.out.size))
        have hby := hbx.below hbx.lt hV
        clear CTV hV hbx HBV
        have HE2 : Hid (r = 10) := Lib.hid (by rw [HE.out]; exact HK1.out rfl)
        have HB9 := Lib.hid (HB2.out.trans (HBW.out.mono HB2.out.size))
        clear HE HBW HK1 HK2 HK3 HB2
        go_upto_region 13 with fail
        refine wl <| gz1 (.int .i64 10) <| wn ?_
        simp only [pu]
        go_wp2_with fail
        go_ret
        rw [HE2.out]
        exact ⟨rfl, HB9.out⟩
       ·skip
        refine wl <| gz1 (.pointer (some ⟨g4, 0, none⟩)) <| gzl rfl ⟨g4, 0, none⟩ (.string y.1) (hbx.load (i := 0) rfl (by kernel_rfl)) <| gzc (.bool true) (fun w' => Below V2.heap.size V2 w') (CTV) (fun V3 hV => ?_)
        simp only [pu]
        refine gz1 (.bool false) <| wn ?_
        simp only [pu]
        have HBW := Lib.hid (HBV.out.trans (hV.mono HBV.out.size))
        have hby := hbx.below hbx.lt hV
        clear CTV hV hbx HBV
        go_upto_region 14 with fail
        by_cases h0 : y.2 = 0
        ·skip
         refine wl <| gz1 (.pointer (some ⟨g4, 1, none⟩)) <| gzl rfl ⟨g4, 1, none⟩ (.int .u64 y.2) (hby.load (i := 1) rfl (by kernel_rfl)) <| gzb (eql_u0 rfl y.2 (decide_eq_true h0)) <| wn ?_
         simp only [pu]
         have HE2 : Hid (r = 12) := Lib.hid (by rw [HE.out]; exact HK2.out rfl h0)
         have HB9 := Lib.hid (HB2.out.trans (HBW.out.mono HB2.out.size))
         clear HE HBW HK1 HK2 HK3 HB2
         go_upto_region 15 with fail
         refine wl <| gz1 (.int .i64 12) <| wn ?_
         simp only [pu]
         go_wp2_with fail
         go_ret
         rw [HE2.out]
         exact ⟨rfl, HB9.out⟩
        ·skip
         refine wl <| gz1 (.pointer (some ⟨g4, 1, none⟩)) <| gzl rfl ⟨g4, 1, none⟩ (.int .u64 y.2) (hby.load (i := 1) rfl (by kernel_rfl)) <| gzb (eql_u0 rfl y.2 (decide_eq_false h0)) <| wn ?_
         simp only [pu]
         have HK9 := Lib.hid (HK3.out rfl h0)
         clear HK1 HK2 HK3 hby
         go_upto_region 16 with fail
         refine wl <| gzv (.int .i64 (j + 1 : Nat)) (add_one rfl j (by omega) (by kernel_rfl) _) <| gz1 (.int .i64 (j + 1 : Nat)) <| wn ?_
         simp only [pu]
         go_wp2_with fail
         go_roundg (gk - 1)
         case measure => have := HG.out; omega
         case rel => exact ⟨j + 1, rfl, HG.out.2.2, HK9, HBW, HG.out.1⟩
      ·skip
       have HE2 : Hid (r = 0) := Lib.hid (by rw [HE.out]; exact HK.out.done (by rw [HN.out]; omega))
       have HB9 := Lib.hid (HB2.out.trans (HB.out.mono HB2.out.size))
       clear HE HB HK HB2 hg
       go_upto_region 10 with fail
       refine wl <| gzb (lss_n rfl (j) (n) dF) <| wn ?_
       simp only [pu]
       go_upto_region 17 with fail
       refine wl <| gz1 (.int .i64 0) <| wn ?_
       simp only [pu]
       go_wp2_with fail
       go_ret
       rw [HE2.out]
       exact ⟨rfl, HB9.out⟩
end Go.Proofs.Ytglglhcnofbagaa
namespace Go.Proofs.Ytglglhcnofbagaa
open Go.RowKit
set_option linter.unusedSimpArgs false
set_option linter.unusedVariables false

/-- A slice of bytes of the call's own is handed back. -/
def OwnO (w : World) (B : Nat) (L : List Int) (e : Ending) (w' : World) : Prop := ∃ v, e = .returned v ∧ Own w' B v L ∧ Below w.heap.size w w'
theorem load_tfb {w : World} {g k : Nat} {x : Tf} (h : Bx w g (tfA x) k) : (Instr.loadAt 35 (.pointer (some ⟨g, 0, none⟩))).run Try.prog w = .ok (.agg (tfA x)) w :=
 load_tf fun j v hv => by
  rw [cell_of_row w g _ _ _ (0, 0) h]
  simpa [tfl] using hv
end Go.Proofs.Ytglglhcnofbagaa
