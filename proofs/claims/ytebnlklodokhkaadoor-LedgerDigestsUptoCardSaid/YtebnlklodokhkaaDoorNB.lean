/-
  Strings as lists of numbers, names; comparisons; the program's and the reference's IsName: contracts.
-/
import Derived.Test.YtebnlklodokhkaaDoorVC2
import Derived.Test.YtebnlklodokhkaaDoorCB
import Derived.Lib.ConvBytes
import Derived.Lib.Bytealg
namespace Go.Proofs.YtebnlklodokhkaaDoor.Lg
open Go.RowKit
set_option linter.unusedSimpArgs false
set_option linter.unusedVariables false

def nums (s : ByteArray) : List Int := s.data.toList.map fun x => (x.toNat : Int)
theorem nums_len (s : ByteArray) : (nums s).length = s.size := by
  unfold nums
  rw [List.length_map, Array.length_toList]
  rfl
theorem nums_at (s : ByteArray) (i : Nat) (h : i < s.size) : (nums s).getD i 0 = ((s[i]'h).toNat : Int) := by
  have h2 : i < s.data.toList.length := by rw [Array.length_toList]; exact h
  unfold nums
  rw [getD_lt _ i 0 (by simpa using h2), List.getElem_map]
  rfl
theorem nums_byte (s : ByteArray) : ∀ x, x ∈ nums s → W8 x := by
  intro x hx
  obtain ⟨b, -, rfl⟩ := List.mem_map.1 hx
  have := b.toNat_lt
  exact ⟨by omega, by omega⟩
theorem nums_str (L : List Int) (h : ∀ x, x ∈ L → W8 x) : nums (strOfNums L) = L := by
  unfold nums
  rw [strOfNums_data, List.map_map]
  conv => rhs; rw [← List.map_id L]
  apply List.map_congr_left
  intro x hx
  obtain ⟨h0, h1⟩ := h x hx
  simp
  omega
theorem str_nums (s : ByteArray) : strOfNums (nums s) = s := by
  apply ByteArray.ext
  apply Array.toList_inj.1
  rw [strOfNums_data, nums, List.map_map]
  conv => rhs; rw [← List.map_id s.data.toList]
  apply List.map_congr_left
  intro x _
  simp
theorem str_index (s : ByteArray) (i : Nat) (h : i < s.size) (w : World) : (Instr.index 9 (.string s) (.int .i64 (i : Int))).run Tryd.prog w = .ok (.int .u8 ((nums s).getD i 0)) w := by
  have hc : 0 ≤ (i : Int) ∧ (i : Int) < s.size := by omega
  rw [run_index_string _ _ _ _ _ Tryd.underlying9, dif_pos hc, nums_at s i h]
  rfl
def nmB (c : Int) : Bool := (decide (97 ≤ c) && decide (c ≤ 122)) || (decide (48 ≤ c) && decide (c ≤ 57)) || decide (c = 45)
def isName (L : List Int) : Bool := L.all nmB && (decide (1 ≤ L.length) && decide (L.length ≤ 20))
theorem all_no {L : List Int} {i : Nat} (h : i < L.length) (hb : nmB (L.getD i 0) = false) : isName L = false := by
  unfold isName
  have : L.all nmB = false := by
    rw [List.all_eq_false]
    exact ⟨L.getD i 0, by rw [List.getD_eq_getElem?_getD, List.getElem?_eq_getElem h]; exact List.getElem_mem h, by rw [hb]; simp⟩
  rw [this]
  rfl
theorem all_yes {L : List Int} (h : ∀ j, j < L.length → nmB (L.getD j 0) = true) : L.all nmB = true := by
  rw [List.all_eq_true]
  intro x hx
  obtain ⟨j, hj, rfl⟩ := List.mem_iff_getElem.1 hx
  have := h j hj
  rwa [List.getD_eq_getElem?_getD, List.getElem?_eq_getElem hj] at this
section
variable {ρ : Operand → Value} {o : Oper} {x y : Operand}
theorem ex_index (s : ByteArray) (i : Nat) (h : i < s.size) (ho : o.op = .index 9 x y) (hx : ρ x = .string s) (hy : ρ y = .int .i64 i) (w : World) : (execOp ρ o).run Tryd.prog w = .ok (.value (.int .u8 ((nums s).getD i 0))) w := by
  unfold execOp
  simp only [ho, hx, hy, Sem.run_bind, str_index s i h w]
  rfl
theorem geq_u (ho : o.op = .binOp .geq 5 x y 5) (a b : Int) {t : Bool} (ht : decide (b ≤ a) = t) (hx : ρ x = .int .u8 a) (hy : ρ y = .int .u8 b) (w : World) : (execOp ρ o).run Tryd.prog w = .ok (.value (.bool t)) w := by
  rw [← ht]
  unfold execOp
  simp only [ho, hx, hy]
  go_simp
theorem leq_u (ho : o.op = .binOp .leq 5 x y 5) (a b : Int) {t : Bool} (ht : decide (a ≤ b) = t) (hx : ρ x = .int .u8 a) (hy : ρ y = .int .u8 b) (w : World) : (execOp ρ o).run Tryd.prog w = .ok (.value (.bool t)) w := by
  rw [← ht]
  unfold execOp
  simp only [ho, hx, hy]
  go_simp
theorem lss_u (ho : o.op = .binOp .lss 5 x y 5) (a b : Int) {t : Bool} (ht : decide (a < b) = t) (hx : ρ x = .int .u8 a) (hy : ρ y = .int .u8 b) (w : World) : (execOp ρ o).run Tryd.prog w = .ok (.value (.bool t)) w := by
  rw [← ht]
  unfold execOp
  simp only [ho, hx, hy]
  go_simp
theorem eql_u (ho : o.op = .binOp .eql 5 x y 5) (a b : Int) {t : Bool} (ht : decide (a = b) = t) (hx : ρ x = .int .u8 a) (hy : ρ y = .int .u8 b) (w : World) : (execOp ρ o).run Tryd.prog w = .ok (.value (.bool t)) w := by
  have e : (a == b) = t := ht
  unfold execOp
  simp only [ho, hx, hy]
  go_simp
theorem geq_n (ho : o.op = .binOp .geq 3 x y 3) (a b : Int) {t : Bool} (ht : decide (b ≤ a) = t) (hx : ρ x = .int .i64 a) (hy : ρ y = .int .i64 b) (w : World) : (execOp ρ o).run Tryd.prog w = .ok (.value (.bool t)) w := by
  rw [← ht]
  unfold execOp
  simp only [ho, hx, hy]
  go_simp
theorem leq_n (ho : o.op = .binOp .leq 3 x y 3) (a b : Int) {t : Bool} (ht : decide (a ≤ b) = t) (hx : ρ x = .int .i64 a) (hy : ρ y = .int .i64 b) (w : World) : (execOp ρ o).run Tryd.prog w = .ok (.value (.bool t)) w := by
  rw [← ht]
  unfold execOp
  simp only [ho, hx, hy]
  go_simp
theorem lss_n (ho : o.op = .binOp .lss 3 x y 3) (a b : Int) {t : Bool} (ht : decide (a < b) = t) (hx : ρ x = .int .i64 a) (hy : ρ y = .int .i64 b) (w : World) : (execOp ρ o).run Tryd.prog w = .ok (.value (.bool t)) w := by
  rw [← ht]
  unfold execOp
  simp only [ho, hx, hy]
  go_simp
end
/-- A byte of a string at the operation. -/
def StrAt (s : ByteArray) (i : Nat) (c : Int) : Prop := ∀ (ρ : Operand → Value) (o : Oper) (x y : Operand), o.op = .index 9 x y → ρ x = .string s → ρ y = .int .i64 i → ∀ w, (execOp ρ o).run Tryd.prog w = .ok (.value (.int .u8 c)) w
theorem str_at (s : ByteArray) (i : Nat) (h : i < s.size) : StrAt s i ((nums s).getD i 0) := fun ρ o x y ho hx hy w => ex_index s i h ho hx hy w
def mtS : ByteArray := ⟨#[]⟩
theorem eql_s {ρ : Operand → Value} {o : Oper} {x y : Operand} (ho : o.op = .binOp .eql 9 x y 9) (a b : ByteArray) {t : Bool} (ht : (a == b) = t) (hx : ρ x = .string a) (hy : ρ y = .string b) (w : World) : (execOp ρ o).run Tryd.prog w = .ok (.value (.bool t)) w := by
  have e : (a.toList == b.toList) = t := by rw [← beq_toListBytes]; exact ht
  unfold execOp
  simp only [ho, hx, hy]
  go_simp
theorem mt_true {s : ByteArray} (h : s.size = 0) : (s == (⟨#[]⟩ : ByteArray)) = true := by
  have e : s = ⟨#[]⟩ := ByteArray.ext (Array.eq_empty_of_size_eq_zero h)
  subst e
  rfl
theorem mt_false {s : ByteArray} (h : s.size ≠ 0) : (s == (⟨#[]⟩ : ByteArray)) = false := by
  rw [Bool.eq_false_iff]
  intro e
  rw [beq_toListBytes] at e
  have e2 := eq_of_beq e
  rw [ByteArray.toList_eq, ByteArray.toList_eq] at e2
  have e3 := congrArg List.length e2
  exact h (by simpa using e3)
theorem conv_s {ρ : Operand → Value} {o : Oper} {x : Operand} (ho : o.op = .convert 9 53 x) (s : ByteArray) (hx : ρ x = .string s) (w : World) : (execOp ρ o).run Tryd.prog w = .ok (.value (.slice (some ⟨w.heap.size, 0, none⟩) s.size (grownCap w s.size 0 5))) (Lib.bytesWorld w 5 s) := by
  have h := Lib.run_convert_string_bytes (P := Tryd.prog) w 9 53 5 s Tryd.underlying9 Tryd.underlying53 Tryd.underlying5
  unfold execOp
  simp only [ho, hx, Sem.run_bind, h]
  rfl
/-- What the conversion leaves. -/
theorem conv_world (w : World) (s : ByteArray) (c : Nat) : Below w.heap.size w (Lib.bytesWorld w 5 s) ∧ Sl (Lib.bytesWorld w 5 s) (some ⟨w.heap.size, 0, none⟩) c (nums s) ∧ (Lib.bytesWorld w 5 s).heap.size = w.heap.size + 1 := by
  refine ⟨⟨rfl, rfl, rfl, by rw [Lib.bytesWorld_size]; omega, fun k hk => Lib.bytesWorld_at_old w _ s k hk⟩, .inr ⟨_, rfl, fun k hk => ⟨w.heap.size, 0, rfl, ?_⟩⟩, Lib.bytesWorld_size w _ s⟩
  rw [nums_len] at hk
  rw [Nat.zero_add, Lib.bytesWorld_cell w _ s k hk]
  unfold nums
  simp [List.getD_eq_getElem?_getD, List.getElem?_map]
  cases h : s.data[k]? with
  | none =>
    rw [Array.getElem?_eq_none_iff] at h
    exact absurd hk (by show ¬ k < s.data.size; omega)
  | some u => simp
theorem gtr_n {ρ : Operand → Value} {o : Oper} {x y : Operand} (ho : o.op = .binOp .gtr 3 x y 3) (a b : Int) {t : Bool} (ht : decide (b < a) = t) (hx : ρ x = .int .i64 a) (hy : ρ y = .int .i64 b) (w : World) : (execOp ρ o).run Tryd.prog w = .ok (.value (.bool t)) w := by
  rw [← ht]
  unfold execOp
  simp only [ho, hx, hy]
  go_simp
theorem eql_n {ρ : Operand → Value} {o : Oper} {x y : Operand} (ho : o.op = .binOp .eql 3 x y 3) (a b : Int) {t : Bool} (ht : decide (a = b) = t) (hx : ρ x = .int .i64 a) (hy : ρ y = .int .i64 b) (w : World) : (execOp ρ o).run Tryd.prog w = .ok (.value (.bool t)) w := by
  have e : (a == b) = t := ht
  unfold execOp
  simp only [ho, hx, hy]
  go_simp
theorem neq_n {ρ : Operand → Value} {o : Oper} {x y : Operand} (ho : o.op = .binOp .neq 3 x y 3) (a b : Int) {t : Bool} (ht : decide (a = b) = t) (hx : ρ x = .int .i64 a) (hy : ρ y = .int .i64 b) (w : World) : (execOp ρ o).run Tryd.prog w = .ok (.value (.bool (!t))) w := by
  have e : (a != b) = !t := by rw [← ht]; rfl
  unfold execOp
  simp only [ho, hx, hy]
  go_simp
theorem neq_e {ρ : Operand → Value} {o : Oper} {x y : Operand} (ho : o.op = .binOp .neq 38 x y 38) (a b : Int) {t : Bool} (ht : decide (a = b) = t) (hx : ρ x = .int .i64 a) (hy : ρ y = .int .i64 b) (w : World) : (execOp ρ o).run Tryd.prog w = .ok (.value (.bool (!t))) w := by
  have e : (a != b) = !t := by rw [← ht]; rfl
  unfold execOp
  simp only [ho, hx, hy]
  go_simp
theorem eql_e {ρ : Operand → Value} {o : Oper} {x y : Operand} (ho : o.op = .binOp .eql 38 x y 38) (a b : Int) {t : Bool} (ht : decide (a = b) = t) (hx : ρ x = .int .i64 a) (hy : ρ y = .int .i64 b) (w : World) : (execOp ρ o).run Tryd.prog w = .ok (.value (.bool t)) w := by
  have e : (a == b) = t := ht
  unfold execOp
  simp only [ho, hx, hy]
  go_simp
theorem add_iw {ρ : Operand → Value} {o : Oper} {x y : Operand} (ho : o.op = .binOp .add 3 x y 3) (a b : Int) (hx : ρ x = .int .i64 a) (hy : ρ y = .int .i64 b) (w : World) : (execOp ρ o).run Tryd.prog w = .ok (.value (.int .i64 (IntKind.i64.wrap (a + b)))) w := by
  unfold execOp
  simp only [ho, hx, hy]
  go_simp
theorem gtr_any {ρ : Operand → Value} {o : Oper} {x y : Operand} (ho : o.op = .binOp .gtr 3 x y 3) (a b : Int) (hx : ρ x = .int .i64 a) (hy : ρ y = .int .i64 b) (w : World) : (execOp ρ o).run Tryd.prog w = .ok (.value (.bool (decide (b < a)))) w := by
  unfold execOp
  simp only [ho, hx, hy]
  go_simp
theorem neq_s {ρ : Operand → Value} {o : Oper} {x y : Operand} (ho : o.op = .binOp .neq 9 x y 9) (a b : ByteArray) {t : Bool} (ht : (a == b) = t) (hx : ρ x = .string a) (hy : ρ y = .string b) (w : World) : (execOp ρ o).run Tryd.prog w = .ok (.value (.bool (!t))) w := by
  have e : (a.toList == b.toList) = t := by rw [← beq_toListBytes]; exact ht
  subst e
  unfold execOp
  simp only [ho, hx, hy]
  go_simp
/-- The order of strings. -/
def ltS (a b : ByteArray) : Bool := decide (a.data.toList < b.data.toList)
theorem bl_dec : ∀ (x y : List UInt8), Op.bytesLess x y = decide (x < y)
  | [], [] => by simp [Op.bytesLess]
  | _ :: _, [] => by simp [Op.bytesLess]
  | [], _ :: _ => by simp [Op.bytesLess]
  | a :: x, b :: y => by
    unfold Op.bytesLess
    rw [bl_dec x y, Bool.eq_iff_iff]
    simp only [Bool.or_eq_true, Bool.and_eq_true, decide_eq_true_eq, beq_iff_eq, List.cons_lt_cons_iff]
theorem toL_d (a : ByteArray) : a.toList = a.data.toList := Lib.toList_data a
theorem bl_lt (a b : ByteArray) : Op.bytesLess a.toList b.toList = ltS a b := by rw [bl_dec, toL_d, toL_d]; rfl
theorem eqB (a b : ByteArray) : (a.toList == b.toList) = decide (a = b) := by
  rw [toL_d, toL_d]
  by_cases h : a = b
  · subst h; simp
  · rw [decide_eq_false h, beq_eq_false_iff_ne]
    intro e
    exact h (ByteArray.ext (Array.toList_inj.1 e))
theorem beqB (a b : ByteArray) : (a == b) = decide (a = b) := by rw [beq_toListBytes, eqB]
theorem ltS_irr (a : ByteArray) : ltS a a = false := decide_eq_false (List.lt_irrefl _)
theorem ltS_tr {a b c : ByteArray} (h : ltS a b = true) (g : ltS b c = true) : ltS a c = true := decide_eq_true (List.lt_trans (of_decide_eq_true h) (of_decide_eq_true g))
theorem ltS_as {a b : ByteArray} (h : ltS a b = true) : ltS b a = false := by
  rw [Bool.eq_false_iff]
  intro g
  have := ltS_tr h g
  rw [ltS_irr] at this
  cases this
theorem ltS_ne {a b : ByteArray} (h : ltS a b = true) : a ≠ b := by
  rintro rfl
  rw [ltS_irr] at h
  cases h
theorem ltS_tot {a b : ByteArray} (h : ltS a b = false) (hn : a ≠ b) : ltS b a = true := by
  refine decide_eq_true ?_
  have h1 : ¬ a.data.toList < b.data.toList := of_decide_eq_false h
  have h2 : b.data.toList ≤ a.data.toList := List.not_lt.1 h1
  rcases List.le_iff_lt_or_eq.1 h2 with h3 | h3
  · exact h3
  · exact absurd (ByteArray.ext (Array.toList_inj.1 h3)).symm hn
theorem lss_s {ρ : Operand → Value} {o : Oper} {x y : Operand} (ho : o.op = .binOp .lss 9 x y 9) (a b : ByteArray) {t : Bool} (ht : ltS a b = t) (hx : ρ x = .string a) (hy : ρ y = .string b) (w : World) : (execOp ρ o).run Tryd.prog w = .ok (.value (.bool t)) w := by
  have e : Op.bytesLess a.toList b.toList = t := (bl_lt a b).trans ht
  unfold execOp
  simp only [ho, hx, hy]
  go_simp
theorem gtr_s {ρ : Operand → Value} {o : Oper} {x y : Operand} (ho : o.op = .binOp .gtr 9 x y 9) (a b : ByteArray) {t : Bool} (ht : ltS b a = t) (hx : ρ x = .string a) (hy : ρ y = .string b) (w : World) : (execOp ρ o).run Tryd.prog w = .ok (.value (.bool t)) w := by
  have e : (!(Op.bytesLess a.toList b.toList || a.toList == b.toList)) = t := by
    rw [bl_lt, eqB, ← ht]
    by_cases h : ltS a b = true
    · rw [h, ltS_as h]; rfl
    · have h1 : ltS a b = false := by simpa using h
      by_cases h2 : a = b
      · subst h2; rw [ltS_irr]; simp
      · rw [h1, ltS_tot h1 h2, decide_eq_false h2]; rfl
  unfold execOp
  simp only [ho, hx, hy]
  go_simp
set_option maxRecDepth 100000 in
set_option maxHeartbeats 4000000 in
theorem ref_isname (s : ByteArray) (w : World) (hl : s.size ≤ 140737488355328) : Calls Tryd.prog 31 #[.string s] w fun e w' => e = .returned (.bool (isName (nums s))) ∧ w = w' := by
  have HIX := Lib.hid (fun (i : Nat) (h : i < s.size) => str_at s i h)
  have HL := Lib.hid (nums_len s)
  obtain ⟨L, hL⟩ : ∃ L, nums s = L := ⟨_, rfl⟩
  rw [hL] at HIX HL ⊢
  have HNO := Lib.hid (fun i (h : i < L.length) => all_no h)
  have HYES := Lib.hid (@all_yes L)
  clear hL
  obtain ⟨n, hn⟩ : ∃ n, s.size = n := ⟨_, rfl⟩
  go_enter Tryd.func31, Tryd.ntmps31
  go_upto_region 1 with fail
  apply wp_region_lit
  refine gw_val (by kernel_rfl) (some 3) rfl (.int .i64 0) (by kernel_rfl) ?_
  simp only [pu1, pu2, pu3, pu4]
  apply wpList_nil
  go_wp2_with fail
  go_loopg [3] n (fun gg s3 wx => ∃ i : Nat, s3 = .int .i64 i ∧ i ≤ n ∧ (∀ j, j < i → nmB (L.getD j 0) = true) ∧ wx = w ∧ n - i = gg)
  case atStart => exact ⟨0, rfl, by omega, fun j hj => by omega, rfl, by omega⟩
  case round =>
    obtain ⟨i, rfl, hi, hyes, rfl, hg⟩ := hrel
    by_cases hlt : i < n
    · have HG : Hid (n - (i + 1) = gk - 1 ∧ 0 < gk ∧ i + 1 ≤ n) := Lib.hid ⟨by omega, by omega, by omega⟩
      have hix := HIX.out i (by omega)
      have hno := HNO.out i (by rw [HL.out]; omega)
      obtain ⟨c, hc⟩ : ∃ c, L.getD i 0 = c := ⟨_, rfl⟩
      rw [hc] at hix hno
      have HYS : Hid (nmB c = true → ∀ j, j < i + 1 → nmB (L.getD j 0) = true) := Lib.hid fun hb j hj => by
        by_cases e : j = i
        · rw [e, hc]; exact hb
        · exact hyes j (by omega)
      have HD : Hid (decide ((i : Int) < (n : Int)) = true) := Lib.hid (decide_eq_true (by omega))
      clear hc hyes hg
      go_upto_region 2 with fail
      apply wp_region_lit
      refine gw_val (by kernel_rfl) (some 5) rfl (.int .i64 i) (by kernel_rfl) ?_
      simp only [pu1, pu2, pu3, pu4]
      refine gw_val (by kernel_rfl) (some 6) rfl (.string s) (by kernel_rfl) ?_
      simp only [pu1, pu2, pu3, pu4]
      refine gw_val (by kernel_rfl) (some 7) rfl (.int .i64 n) (by rw [← hn]; kernel_rfl) ?_
      simp only [pu1, pu2, pu3, pu4]
      refine gw_val (by kernel_rfl) (some 8) rfl (.bool true) (lss_n rfl i n HD.out (by kernel_rfl) (by kernel_rfl) _) ?_
      simp only [pu1, pu2, pu3, pu4]
      apply wpList_nil
      go_upto_region 4 with fail
      apply wp_region_lit
      refine gw_val (by kernel_rfl) (some 11) rfl (.string s) (by kernel_rfl) ?_
      simp only [pu1, pu2, pu3, pu4]
      refine gw_val (by kernel_rfl) (some 12) rfl (.int .i64 i) (by kernel_rfl) ?_
      simp only [pu1, pu2, pu3, pu4]
      refine gw_val (by kernel_rfl) (some 13) rfl (.int .u8 c) (hix _ _ _ _ rfl (by kernel_rfl) (by kernel_rfl) _) ?_
      simp only [pu1, pu2, pu3, pu4]
      refine gw_val (by kernel_rfl) (some 4) rfl (.int .u8 c) (by kernel_rfl) ?_
      simp only [pu1, pu2, pu3, pu4]
      apply wpList_nil
      go_upto_region 5 with fail
      have hcl : (97 ≤ c ∧ c ≤ 122) ∨ (48 ≤ c ∧ c ≤ 57) ∨ (c = 45) ∨ (122 < c) ∨ (57 < c ∧ c < 97) ∨ (c < 48 ∧ c ≠ 45) := by omega
      rcases hcl with hc | hc | hc | hc | hc | hc
      · apply wp_region_lit
        refine gw_val (by kernel_rfl) (some 14) rfl (.int .u8 c) (by kernel_rfl) ?_
        simp only [pu1, pu2, pu3, pu4]
        refine gw_val (by kernel_rfl) (some 15) rfl (.bool true) (geq_u rfl c 97 (decide_eq_true (by omega)) (by kernel_rfl) (by kernel_rfl) _) ?_
        simp only [pu1, pu2, pu3, pu4]
        refine gw_val (by kernel_rfl) (some 16) rfl (.bool true) (by kernel_rfl) ?_
        simp only [pu1, pu2, pu3, pu4]
        refine gw_val (by kernel_rfl) (some 17) rfl (.int .u8 c) (by kernel_rfl) ?_
        simp only [pu1, pu2, pu3, pu4]
        refine gw_val (by kernel_rfl) (some 18) rfl (.bool true) (leq_u rfl c 122 (decide_eq_true (by omega)) (by kernel_rfl) (by kernel_rfl) _) ?_
        simp only [pu1, pu2, pu3, pu4]
        refine gw_val (by kernel_rfl) (some 19) rfl (.bool true) (by kernel_rfl) ?_
        simp only [pu1, pu2, pu3, pu4]
        refine gw_val (by kernel_rfl) (some 20) rfl (.bool true) (by kernel_rfl) ?_
        simp only [pu1, pu2, pu3, pu4]
        with_reducible refine gw_not (by kernel_rfl) (some 21) rfl ?_
        simp only [pu1, pu2, pu3, pu4]
        with_reducible refine gw_not (by kernel_rfl) (some 22) rfl ?_
        simp only [pu1, pu2, pu3, pu4]
        with_reducible refine gw_not (by kernel_rfl) (some 23) rfl ?_
        simp only [pu1, pu2, pu3, pu4]
        with_reducible refine gw_not (by kernel_rfl) (some 24) rfl ?_
        simp only [pu1, pu2, pu3, pu4]
        with_reducible refine gw_not (by kernel_rfl) (some 25) rfl ?_
        simp only [pu1, pu2, pu3, pu4]
        with_reducible refine gw_not (by kernel_rfl) (some 26) rfl ?_
        simp only [pu1, pu2, pu3, pu4]
        refine gw_val (by kernel_rfl) (some 27) rfl (.bool true) (by kernel_rfl) ?_
        simp only [pu1, pu2, pu3, pu4]
        refine gw_val (by kernel_rfl) (some 28) rfl (.bool true) (by kernel_rfl) ?_
        simp only [pu1, pu2, pu3, pu4]
        with_reducible refine gw_not (by kernel_rfl) (some 29) rfl ?_
        simp only [pu1, pu2, pu3, pu4]
        with_reducible refine gw_not (by kernel_rfl) (some 30) rfl ?_
        simp only [pu1, pu2, pu3, pu4]
        refine gw_val (by kernel_rfl) (some 31) rfl (.bool true) (by kernel_rfl) ?_
        simp only [pu1, pu2, pu3, pu4]
        refine gw_val (by kernel_rfl) (some 32) rfl (.bool false) (by kernel_rfl) ?_
        simp only [pu1, pu2, pu3, pu4]
        apply wpList_nil
        have HY2 := Lib.hid (HYS.out (by simp only [nmB, Bool.or_eq_true, Bool.and_eq_true, decide_eq_true_eq]; omega))
        clear hno HYS hix HIX
        go_upto_region 3 with fail
        apply wp_region_lit
        refine gw_val (by kernel_rfl) (some 9) rfl (.int .i64 i) (by kernel_rfl) ?_
        simp only [pu1, pu2, pu3, pu4]
        refine gw_val (by kernel_rfl) (some 10) rfl (.int .i64 (i + 1 : Nat)) (add_nat rfl i 1 (by omega) (by kernel_rfl) (by kernel_rfl) _) ?_
        simp only [pu1, pu2, pu3, pu4]
        refine gw_val (by kernel_rfl) (some 3) rfl (.int .i64 (i + 1 : Nat)) (by kernel_rfl) ?_
        simp only [pu1, pu2, pu3, pu4]
        apply wpList_nil
        go_wp2_with fail
        go_roundg (gk - 1)
        case measure => have := HG.out; omega
        case rel => exact ⟨i + 1, rfl, HG.out.2.2, HY2.out, rfl, HG.out.1⟩
      · apply wp_region_lit
        refine gw_val (by kernel_rfl) (some 14) rfl (.int .u8 c) (by kernel_rfl) ?_
        simp only [pu1, pu2, pu3, pu4]
        refine gw_val (by kernel_rfl) (some 15) rfl (.bool false) (geq_u rfl c 97 (decide_eq_false (by omega)) (by kernel_rfl) (by kernel_rfl) _) ?_
        simp only [pu1, pu2, pu3, pu4]
        refine gw_val (by kernel_rfl) (some 16) rfl (.bool false) (by kernel_rfl) ?_
        simp only [pu1, pu2, pu3, pu4]
        with_reducible refine gw_not (by kernel_rfl) (some 17) rfl ?_
        simp only [pu1, pu2, pu3, pu4]
        with_reducible refine gw_not (by kernel_rfl) (some 18) rfl ?_
        simp only [pu1, pu2, pu3, pu4]
        refine gw_val (by kernel_rfl) (some 19) rfl (.bool false) (by kernel_rfl) ?_
        simp only [pu1, pu2, pu3, pu4]
        refine gw_val (by kernel_rfl) (some 20) rfl (.bool false) (by kernel_rfl) ?_
        simp only [pu1, pu2, pu3, pu4]
        refine gw_val (by kernel_rfl) (some 21) rfl (.int .u8 c) (by kernel_rfl) ?_
        simp only [pu1, pu2, pu3, pu4]
        refine gw_val (by kernel_rfl) (some 22) rfl (.bool true) (geq_u rfl c 48 (decide_eq_true (by omega)) (by kernel_rfl) (by kernel_rfl) _) ?_
        simp only [pu1, pu2, pu3, pu4]
        refine gw_val (by kernel_rfl) (some 23) rfl (.bool true) (by kernel_rfl) ?_
        simp only [pu1, pu2, pu3, pu4]
        refine gw_val (by kernel_rfl) (some 24) rfl (.int .u8 c) (by kernel_rfl) ?_
        simp only [pu1, pu2, pu3, pu4]
        refine gw_val (by kernel_rfl) (some 25) rfl (.bool true) (leq_u rfl c 57 (decide_eq_true (by omega)) (by kernel_rfl) (by kernel_rfl) _) ?_
        simp only [pu1, pu2, pu3, pu4]
        refine gw_val (by kernel_rfl) (some 26) rfl (.bool true) (by kernel_rfl) ?_
        simp only [pu1, pu2, pu3, pu4]
        refine gw_val (by kernel_rfl) (some 27) rfl (.bool true) (by kernel_rfl) ?_
        simp only [pu1, pu2, pu3, pu4]
        refine gw_val (by kernel_rfl) (some 28) rfl (.bool true) (by kernel_rfl) ?_
        simp only [pu1, pu2, pu3, pu4]
        with_reducible refine gw_not (by kernel_rfl) (some 29) rfl ?_
        simp only [pu1, pu2, pu3, pu4]
        with_reducible refine gw_not (by kernel_rfl) (some 30) rfl ?_
        simp only [pu1, pu2, pu3, pu4]
        refine gw_val (by kernel_rfl) (some 31) rfl (.bool true) (by kernel_rfl) ?_
        simp only [pu1, pu2, pu3, pu4]
        refine gw_val (by kernel_rfl) (some 32) rfl (.bool false) (by kernel_rfl) ?_
        simp only [pu1, pu2, pu3, pu4]
        apply wpList_nil
        have HY2 := Lib.hid (HYS.out (by simp only [nmB, Bool.or_eq_true, Bool.and_eq_true, decide_eq_true_eq]; omega))
        clear hno HYS hix HIX
        go_upto_region 3 with fail
        apply wp_region_lit
        refine gw_val (by kernel_rfl) (some 9) rfl (.int .i64 i) (by kernel_rfl) ?_
        simp only [pu1, pu2, pu3, pu4]
        refine gw_val (by kernel_rfl) (some 10) rfl (.int .i64 (i + 1 : Nat)) (add_nat rfl i 1 (by omega) (by kernel_rfl) (by kernel_rfl) _) ?_
        simp only [pu1, pu2, pu3, pu4]
        refine gw_val (by kernel_rfl) (some 3) rfl (.int .i64 (i + 1 : Nat)) (by kernel_rfl) ?_
        simp only [pu1, pu2, pu3, pu4]
        apply wpList_nil
        go_wp2_with fail
        go_roundg (gk - 1)
        case measure => have := HG.out; omega
        case rel => exact ⟨i + 1, rfl, HG.out.2.2, HY2.out, rfl, HG.out.1⟩
      · apply wp_region_lit
        refine gw_val (by kernel_rfl) (some 14) rfl (.int .u8 c) (by kernel_rfl) ?_
        simp only [pu1, pu2, pu3, pu4]
        refine gw_val (by kernel_rfl) (some 15) rfl (.bool false) (geq_u rfl c 97 (decide_eq_false (by omega)) (by kernel_rfl) (by kernel_rfl) _) ?_
        simp only [pu1, pu2, pu3, pu4]
        refine gw_val (by kernel_rfl) (some 16) rfl (.bool false) (by kernel_rfl) ?_
        simp only [pu1, pu2, pu3, pu4]
        with_reducible refine gw_not (by kernel_rfl) (some 17) rfl ?_
        simp only [pu1, pu2, pu3, pu4]
        with_reducible refine gw_not (by kernel_rfl) (some 18) rfl ?_
        simp only [pu1, pu2, pu3, pu4]
        refine gw_val (by kernel_rfl) (some 19) rfl (.bool false) (by kernel_rfl) ?_
        simp only [pu1, pu2, pu3, pu4]
        refine gw_val (by kernel_rfl) (some 20) rfl (.bool false) (by kernel_rfl) ?_
        simp only [pu1, pu2, pu3, pu4]
        refine gw_val (by kernel_rfl) (some 21) rfl (.int .u8 c) (by kernel_rfl) ?_
        simp only [pu1, pu2, pu3, pu4]
        refine gw_val (by kernel_rfl) (some 22) rfl (.bool false) (geq_u rfl c 48 (decide_eq_false (by omega)) (by kernel_rfl) (by kernel_rfl) _) ?_
        simp only [pu1, pu2, pu3, pu4]
        refine gw_val (by kernel_rfl) (some 23) rfl (.bool false) (by kernel_rfl) ?_
        simp only [pu1, pu2, pu3, pu4]
        with_reducible refine gw_not (by kernel_rfl) (some 24) rfl ?_
        simp only [pu1, pu2, pu3, pu4]
        with_reducible refine gw_not (by kernel_rfl) (some 25) rfl ?_
        simp only [pu1, pu2, pu3, pu4]
        refine gw_val (by kernel_rfl) (some 26) rfl (.bool false) (by kernel_rfl) ?_
        simp only [pu1, pu2, pu3, pu4]
        refine gw_val (by kernel_rfl) (some 27) rfl (.bool false) (by kernel_rfl) ?_
        simp only [pu1, pu2, pu3, pu4]
        refine gw_val (by kernel_rfl) (some 28) rfl (.bool false) (by kernel_rfl) ?_
        simp only [pu1, pu2, pu3, pu4]
        refine gw_val (by kernel_rfl) (some 29) rfl (.int .u8 c) (by kernel_rfl) ?_
        simp only [pu1, pu2, pu3, pu4]
        refine gw_val (by kernel_rfl) (some 30) rfl (.bool true) (eql_u rfl c 45 (decide_eq_true (by omega)) (by kernel_rfl) (by kernel_rfl) _) ?_
        simp only [pu1, pu2, pu3, pu4]
        refine gw_val (by kernel_rfl) (some 31) rfl (.bool true) (by kernel_rfl) ?_
        simp only [pu1, pu2, pu3, pu4]
        refine gw_val (by kernel_rfl) (some 32) rfl (.bool false) (by kernel_rfl) ?_
        simp only [pu1, pu2, pu3, pu4]
        apply wpList_nil
        have HY2 := Lib.hid (HYS.out (by simp only [nmB, Bool.or_eq_true, Bool.and_eq_true, decide_eq_true_eq]; omega))
        clear hno HYS hix HIX
        go_upto_region 3 with fail
        apply wp_region_lit
        refine gw_val (by kernel_rfl) (some 9) rfl (.int .i64 i) (by kernel_rfl) ?_
        simp only [pu1, pu2, pu3, pu4]
        refine gw_val (by kernel_rfl) (some 10) rfl (.int .i64 (i + 1 : Nat)) (add_nat rfl i 1 (by omega) (by kernel_rfl) (by kernel_rfl) _) ?_
        simp only [pu1, pu2, pu3, pu4]
        refine gw_val (by kernel_rfl) (some 3) rfl (.int .i64 (i + 1 : Nat)) (by kernel_rfl) ?_
        simp only [pu1, pu2, pu3, pu4]
        apply wpList_nil
        go_wp2_with fail
        go_roundg (gk - 1)
        case measure => have := HG.out; omega
        case rel => exact ⟨i + 1, rfl, HG.out.2.2, HY2.out, rfl, HG.out.1⟩
      · apply wp_region_lit
        refine gw_val (by kernel_rfl) (some 14) rfl (.int .u8 c) (by kernel_rfl) ?_
        simp only [pu1, pu2, pu3, pu4]
        refine gw_val (by kernel_rfl) (some 15) rfl (.bool true) (geq_u rfl c 97 (decide_eq_true (by omega)) (by kernel_rfl) (by kernel_rfl) _) ?_
        simp only [pu1, pu2, pu3, pu4]
        refine gw_val (by kernel_rfl) (some 16) rfl (.bool true) (by kernel_rfl) ?_
        simp only [pu1, pu2, pu3, pu4]
        refine gw_val (by kernel_rfl) (some 17) rfl (.int .u8 c) (by kernel_rfl) ?_
        simp only [pu1, pu2, pu3, pu4]
        refine gw_val (by kernel_rfl) (some 18) rfl (.bool false) (leq_u rfl c 122 (decide_eq_false (by omega)) (by kernel_rfl) (by kernel_rfl) _) ?_
        simp only [pu1, pu2, pu3, pu4]
        refine gw_val (by kernel_rfl) (some 19) rfl (.bool false) (by kernel_rfl) ?_
        simp only [pu1, pu2, pu3, pu4]
        refine gw_val (by kernel_rfl) (some 20) rfl (.bool false) (by kernel_rfl) ?_
        simp only [pu1, pu2, pu3, pu4]
        refine gw_val (by kernel_rfl) (some 21) rfl (.int .u8 c) (by kernel_rfl) ?_
        simp only [pu1, pu2, pu3, pu4]
        refine gw_val (by kernel_rfl) (some 22) rfl (.bool true) (geq_u rfl c 48 (decide_eq_true (by omega)) (by kernel_rfl) (by kernel_rfl) _) ?_
        simp only [pu1, pu2, pu3, pu4]
        refine gw_val (by kernel_rfl) (some 23) rfl (.bool true) (by kernel_rfl) ?_
        simp only [pu1, pu2, pu3, pu4]
        refine gw_val (by kernel_rfl) (some 24) rfl (.int .u8 c) (by kernel_rfl) ?_
        simp only [pu1, pu2, pu3, pu4]
        refine gw_val (by kernel_rfl) (some 25) rfl (.bool false) (leq_u rfl c 57 (decide_eq_false (by omega)) (by kernel_rfl) (by kernel_rfl) _) ?_
        simp only [pu1, pu2, pu3, pu4]
        refine gw_val (by kernel_rfl) (some 26) rfl (.bool false) (by kernel_rfl) ?_
        simp only [pu1, pu2, pu3, pu4]
        refine gw_val (by kernel_rfl) (some 27) rfl (.bool false) (by kernel_rfl) ?_
        simp only [pu1, pu2, pu3, pu4]
        refine gw_val (by kernel_rfl) (some 28) rfl (.bool false) (by kernel_rfl) ?_
        simp only [pu1, pu2, pu3, pu4]
        refine gw_val (by kernel_rfl) (some 29) rfl (.int .u8 c) (by kernel_rfl) ?_
        simp only [pu1, pu2, pu3, pu4]
        refine gw_val (by kernel_rfl) (some 30) rfl (.bool false) (eql_u rfl c 45 (decide_eq_false (by omega)) (by kernel_rfl) (by kernel_rfl) _) ?_
        simp only [pu1, pu2, pu3, pu4]
        refine gw_val (by kernel_rfl) (some 31) rfl (.bool false) (by kernel_rfl) ?_
        simp only [pu1, pu2, pu3, pu4]
        refine gw_val (by kernel_rfl) (some 32) rfl (.bool true) (by kernel_rfl) ?_
        simp only [pu1, pu2, pu3, pu4]
        apply wpList_nil
        have HE := Lib.hid (hno (by rw [Bool.eq_false_iff]; simp only [ne_eq, nmB, Bool.or_eq_true, Bool.and_eq_true, decide_eq_true_eq]; omega))
        clear hno HYS hix HIX
        go_upto_region 6 with fail
        apply wp_region_lit
        refine gw_val (by kernel_rfl) (some 2) rfl (.bool false) (by kernel_rfl) ?_
        simp only [pu1, pu2, pu3, pu4]
        apply wpList_nil
        go_wp2_with fail
        go_ret
        rw [HE.out]
        exact ⟨rfl, rfl⟩
      · apply wp_region_lit
        refine gw_val (by kernel_rfl) (some 14) rfl (.int .u8 c) (by kernel_rfl) ?_
        simp only [pu1, pu2, pu3, pu4]
        refine gw_val (by kernel_rfl) (some 15) rfl (.bool false) (geq_u rfl c 97 (decide_eq_false (by omega)) (by kernel_rfl) (by kernel_rfl) _) ?_
        simp only [pu1, pu2, pu3, pu4]
        refine gw_val (by kernel_rfl) (some 16) rfl (.bool false) (by kernel_rfl) ?_
        simp only [pu1, pu2, pu3, pu4]
        with_reducible refine gw_not (by kernel_rfl) (some 17) rfl ?_
        simp only [pu1, pu2, pu3, pu4]
        with_reducible refine gw_not (by kernel_rfl) (some 18) rfl ?_
        simp only [pu1, pu2, pu3, pu4]
        refine gw_val (by kernel_rfl) (some 19) rfl (.bool false) (by kernel_rfl) ?_
        simp only [pu1, pu2, pu3, pu4]
        refine gw_val (by kernel_rfl) (some 20) rfl (.bool false) (by kernel_rfl) ?_
        simp only [pu1, pu2, pu3, pu4]
        refine gw_val (by kernel_rfl) (some 21) rfl (.int .u8 c) (by kernel_rfl) ?_
        simp only [pu1, pu2, pu3, pu4]
        refine gw_val (by kernel_rfl) (some 22) rfl (.bool true) (geq_u rfl c 48 (decide_eq_true (by omega)) (by kernel_rfl) (by kernel_rfl) _) ?_
        simp only [pu1, pu2, pu3, pu4]
        refine gw_val (by kernel_rfl) (some 23) rfl (.bool true) (by kernel_rfl) ?_
        simp only [pu1, pu2, pu3, pu4]
        refine gw_val (by kernel_rfl) (some 24) rfl (.int .u8 c) (by kernel_rfl) ?_
        simp only [pu1, pu2, pu3, pu4]
        refine gw_val (by kernel_rfl) (some 25) rfl (.bool false) (leq_u rfl c 57 (decide_eq_false (by omega)) (by kernel_rfl) (by kernel_rfl) _) ?_
        simp only [pu1, pu2, pu3, pu4]
        refine gw_val (by kernel_rfl) (some 26) rfl (.bool false) (by kernel_rfl) ?_
        simp only [pu1, pu2, pu3, pu4]
        refine gw_val (by kernel_rfl) (some 27) rfl (.bool false) (by kernel_rfl) ?_
        simp only [pu1, pu2, pu3, pu4]
        refine gw_val (by kernel_rfl) (some 28) rfl (.bool false) (by kernel_rfl) ?_
        simp only [pu1, pu2, pu3, pu4]
        refine gw_val (by kernel_rfl) (some 29) rfl (.int .u8 c) (by kernel_rfl) ?_
        simp only [pu1, pu2, pu3, pu4]
        refine gw_val (by kernel_rfl) (some 30) rfl (.bool false) (eql_u rfl c 45 (decide_eq_false (by omega)) (by kernel_rfl) (by kernel_rfl) _) ?_
        simp only [pu1, pu2, pu3, pu4]
        refine gw_val (by kernel_rfl) (some 31) rfl (.bool false) (by kernel_rfl) ?_
        simp only [pu1, pu2, pu3, pu4]
        refine gw_val (by kernel_rfl) (some 32) rfl (.bool true) (by kernel_rfl) ?_
        simp only [pu1, pu2, pu3, pu4]
        apply wpList_nil
        have HE := Lib.hid (hno (by rw [Bool.eq_false_iff]; simp only [ne_eq, nmB, Bool.or_eq_true, Bool.and_eq_true, decide_eq_true_eq]; omega))
        clear hno HYS hix HIX
        go_upto_region 6 with fail
        apply wp_region_lit
        refine gw_val (by kernel_rfl) (some 2) rfl (.bool false) (by kernel_rfl) ?_
        simp only [pu1, pu2, pu3, pu4]
        apply wpList_nil
        go_wp2_with fail
        go_ret
        rw [HE.out]
        exact ⟨rfl, rfl⟩
      · apply wp_region_lit
        refine gw_val (by kernel_rfl) (some 14) rfl (.int .u8 c) (by kernel_rfl) ?_
        simp only [pu1, pu2, pu3, pu4]
        refine gw_val (by kernel_rfl) (some 15) rfl (.bool false) (geq_u rfl c 97 (decide_eq_false (by omega)) (by kernel_rfl) (by kernel_rfl) _) ?_
        simp only [pu1, pu2, pu3, pu4]
        refine gw_val (by kernel_rfl) (some 16) rfl (.bool false) (by kernel_rfl) ?_
        simp only [pu1, pu2, pu3, pu4]
        with_reducible refine gw_not (by kernel_rfl) (some 17) rfl ?_
        simp only [pu1, pu2, pu3, pu4]
        with_reducible refine gw_not (by kernel_rfl) (some 18) rfl ?_
        simp only [pu1, pu2, pu3, pu4]
        refine gw_val (by kernel_rfl) (some 19) rfl (.bool false) (by kernel_rfl) ?_
        simp only [pu1, pu2, pu3, pu4]
        refine gw_val (by kernel_rfl) (some 20) rfl (.bool false) (by kernel_rfl) ?_
        simp only [pu1, pu2, pu3, pu4]
        refine gw_val (by kernel_rfl) (some 21) rfl (.int .u8 c) (by kernel_rfl) ?_
        simp only [pu1, pu2, pu3, pu4]
        refine gw_val (by kernel_rfl) (some 22) rfl (.bool false) (geq_u rfl c 48 (decide_eq_false (by omega)) (by kernel_rfl) (by kernel_rfl) _) ?_
        simp only [pu1, pu2, pu3, pu4]
        refine gw_val (by kernel_rfl) (some 23) rfl (.bool false) (by kernel_rfl) ?_
        simp only [pu1, pu2, pu3, pu4]
        with_reducible refine gw_not (by kernel_rfl) (some 24) rfl ?_
        simp only [pu1, pu2, pu3, pu4]
        with_reducible refine gw_not (by kernel_rfl) (some 25) rfl ?_
        simp only [pu1, pu2, pu3, pu4]
        refine gw_val (by kernel_rfl) (some 26) rfl (.bool false) (by kernel_rfl) ?_
        simp only [pu1, pu2, pu3, pu4]
        refine gw_val (by kernel_rfl) (some 27) rfl (.bool false) (by kernel_rfl) ?_
        simp only [pu1, pu2, pu3, pu4]
        refine gw_val (by kernel_rfl) (some 28) rfl (.bool false) (by kernel_rfl) ?_
        simp only [pu1, pu2, pu3, pu4]
        refine gw_val (by kernel_rfl) (some 29) rfl (.int .u8 c) (by kernel_rfl) ?_
        simp only [pu1, pu2, pu3, pu4]
        refine gw_val (by kernel_rfl) (some 30) rfl (.bool false) (eql_u rfl c 45 (decide_eq_false (by omega)) (by kernel_rfl) (by kernel_rfl) _) ?_
        simp only [pu1, pu2, pu3, pu4]
        refine gw_val (by kernel_rfl) (some 31) rfl (.bool false) (by kernel_rfl) ?_
        simp only [pu1, pu2, pu3, pu4]
        refine gw_val (by kernel_rfl) (some 32) rfl (.bool true) (by kernel_rfl) ?_
        simp only [pu1, pu2, pu3, pu4]
        apply wpList_nil
        have HE := Lib.hid (hno (by rw [Bool.eq_false_iff]; simp only [ne_eq, nmB, Bool.or_eq_true, Bool.and_eq_true, decide_eq_true_eq]; omega))
        clear hno HYS hix HIX
        go_upto_region 6 with fail
        apply wp_region_lit
        refine gw_val (by kernel_rfl) (some 2) rfl (.bool false) (by kernel_rfl) ?_
        simp only [pu1, pu2, pu3, pu4]
        apply wpList_nil
        go_wp2_with fail
        go_ret
        rw [HE.out]
        exact ⟨rfl, rfl⟩
    · have HD : Hid (decide ((i : Int) < (n : Int)) = false) := Lib.hid (decide_eq_false (by omega))
      have hall := HYES.out (fun j hj => hyes j (by rw [HL.out] at hj; omega))
      have HV : Hid (isName L = (decide (1 ≤ n) && decide (n ≤ 20))) := Lib.hid (by unfold isName; rw [hall, HL.out, hn]; rfl)
      clear hyes hall hg HIX HNO HYES
      go_upto_region 2 with fail
      apply wp_region_lit
      refine gw_val (by kernel_rfl) (some 5) rfl (.int .i64 i) (by kernel_rfl) ?_
      simp only [pu1, pu2, pu3, pu4]
      refine gw_val (by kernel_rfl) (some 6) rfl (.string s) (by kernel_rfl) ?_
      simp only [pu1, pu2, pu3, pu4]
      refine gw_val (by kernel_rfl) (some 7) rfl (.int .i64 n) (by rw [← hn]; kernel_rfl) ?_
      simp only [pu1, pu2, pu3, pu4]
      refine gw_val (by kernel_rfl) (some 8) rfl (.bool false) (lss_n rfl i n HD.out (by kernel_rfl) (by kernel_rfl) _) ?_
      simp only [pu1, pu2, pu3, pu4]
      apply wpList_nil
      go_upto_region 7 with fail
      by_cases h1 : 1 ≤ n
      · have H1 : Hid (decide ((1 : Int) ≤ (n : Int)) = true) := Lib.hid (decide_eq_true (by omega))
        obtain ⟨t, ht⟩ : ∃ t, decide (n ≤ 20) = t := ⟨_, rfl⟩
        have H2 : Hid (decide ((n : Int) ≤ (20 : Int)) = t) := Lib.hid (by rw [← ht]; exact decide_eq_decide.2 (by omega))
        have HE : Hid (isName L = t) := Lib.hid (by rw [HV.out, decide_eq_true h1, ht]; rfl)
        clear ht HV
        apply wp_region_lit
        refine gw_val (by kernel_rfl) (some 33) rfl (.string s) (by kernel_rfl) ?_
        simp only [pu1, pu2, pu3, pu4]
        refine gw_val (by kernel_rfl) (some 34) rfl (.int .i64 n) (by rw [← hn]; kernel_rfl) ?_
        simp only [pu1, pu2, pu3, pu4]
        refine gw_val (by kernel_rfl) (some 35) rfl (.bool true) (geq_n rfl n 1 H1.out (by kernel_rfl) (by kernel_rfl) _) ?_
        simp only [pu1, pu2, pu3, pu4]
        refine gw_val (by kernel_rfl) (some 36) rfl (.bool true) (by kernel_rfl) ?_
        simp only [pu1, pu2, pu3, pu4]
        refine gw_val (by kernel_rfl) (some 37) rfl (.string s) (by kernel_rfl) ?_
        simp only [pu1, pu2, pu3, pu4]
        refine gw_val (by kernel_rfl) (some 38) rfl (.int .i64 n) (by rw [← hn]; kernel_rfl) ?_
        simp only [pu1, pu2, pu3, pu4]
        refine gw_val (by kernel_rfl) (some 39) rfl (.bool t) (leq_n rfl n 20 H2.out (by kernel_rfl) (by kernel_rfl) _) ?_
        simp only [pu1, pu2, pu3, pu4]
        refine gw_val (by kernel_rfl) (some 40) rfl (.bool t) (by kernel_rfl) ?_
        simp only [pu1, pu2, pu3, pu4]
        refine gw_val (by kernel_rfl) (some 2) rfl (.bool t) (by kernel_rfl) ?_
        simp only [pu1, pu2, pu3, pu4]
        apply wpList_nil
        go_wp2_with fail
        go_ret
        rw [HE.out]
        exact ⟨rfl, rfl⟩
      · have H1 : Hid (decide ((1 : Int) ≤ (n : Int)) = false) := Lib.hid (decide_eq_false (by omega))
        have HE : Hid (isName L = false) := Lib.hid (by rw [HV.out, decide_eq_false h1]; rfl)
        clear HV
        apply wp_region_lit
        refine gw_val (by kernel_rfl) (some 33) rfl (.string s) (by kernel_rfl) ?_
        simp only [pu1, pu2, pu3, pu4]
        refine gw_val (by kernel_rfl) (some 34) rfl (.int .i64 n) (by rw [← hn]; kernel_rfl) ?_
        simp only [pu1, pu2, pu3, pu4]
        refine gw_val (by kernel_rfl) (some 35) rfl (.bool false) (geq_n rfl n 1 H1.out (by kernel_rfl) (by kernel_rfl) _) ?_
        simp only [pu1, pu2, pu3, pu4]
        refine gw_val (by kernel_rfl) (some 36) rfl (.bool false) (by kernel_rfl) ?_
        simp only [pu1, pu2, pu3, pu4]
        with_reducible refine gw_not (by kernel_rfl) (some 37) rfl ?_
        simp only [pu1, pu2, pu3, pu4]
        with_reducible refine gw_not (by kernel_rfl) (some 38) rfl ?_
        simp only [pu1, pu2, pu3, pu4]
        with_reducible refine gw_not (by kernel_rfl) (some 39) rfl ?_
        simp only [pu1, pu2, pu3, pu4]
        refine gw_val (by kernel_rfl) (some 40) rfl (.bool false) (by kernel_rfl) ?_
        simp only [pu1, pu2, pu3, pu4]
        refine gw_val (by kernel_rfl) (some 2) rfl (.bool false) (by kernel_rfl) ?_
        simp only [pu1, pu2, pu3, pu4]
        apply wpList_nil
        go_wp2_with fail
        go_ret
        rw [HE.out]
        exact ⟨rfl, rfl⟩
set_option maxRecDepth 100000 in
set_option maxHeartbeats 8000000 in
theorem q_inname (c : Int) (w : World) : Calls Tryd.prog 47 #[.int .u8 c] w fun e w' => e = .returned (.bool (nmB c)) ∧ w = w' := by
  have hcl : (97 ≤ c ∧ c ≤ 122) ∨ (48 ≤ c ∧ c ≤ 57) ∨ c = 45 ∨ 122 < c ∨ (57 < c ∧ c < 97) ∨ (c < 48 ∧ c ≠ 45) := by omega
  rcases hcl with hc | hc | hc | hc | hc | hc
  · have HE : nmB c = true := by
      simp only [nmB, Bool.or_eq_true, Bool.and_eq_true, decide_eq_true_eq]; omega
    rw [HE]
    go_enter Tryd.func47, Tryd.ntmps47
    go_upto_region 1 with fail
    apply wp_region_lit
    refine gw_val (by kernel_rfl) (some 3) rfl (.int .u8 c) (by kernel_rfl) ?_
    simp only [pu1, pu2, pu3, pu4]
    refine gw_val (by kernel_rfl) (some 4) rfl (.bool true) (leq_u rfl (97) (c) (decide_eq_true (by omega)) (by kernel_rfl) (by kernel_rfl) _) ?_
    simp only [pu1, pu2, pu3, pu4]
    refine gw_val (by kernel_rfl) (some 5) rfl (.bool true) (by kernel_rfl) ?_
    simp only [pu1, pu2, pu3, pu4]
    refine gw_val (by kernel_rfl) (some 6) rfl (.int .u8 c) (by kernel_rfl) ?_
    simp only [pu1, pu2, pu3, pu4]
    refine gw_val (by kernel_rfl) (some 7) rfl (.bool true) (leq_u rfl (c) (122) (decide_eq_true (by omega)) (by kernel_rfl) (by kernel_rfl) _) ?_
    simp only [pu1, pu2, pu3, pu4]
    refine gw_val (by kernel_rfl) (some 8) rfl (.bool true) (by kernel_rfl) ?_
    simp only [pu1, pu2, pu3, pu4]
    refine gw_val (by kernel_rfl) (some 9) rfl (.bool true) (by kernel_rfl) ?_
    simp only [pu1, pu2, pu3, pu4]
    with_reducible refine gw_not (by kernel_rfl) (some 10) rfl ?_
    simp only [pu1, pu2, pu3, pu4]
    with_reducible refine gw_not (by kernel_rfl) (some 11) rfl ?_
    simp only [pu1, pu2, pu3, pu4]
    with_reducible refine gw_not (by kernel_rfl) (some 12) rfl ?_
    simp only [pu1, pu2, pu3, pu4]
    with_reducible refine gw_not (by kernel_rfl) (some 13) rfl ?_
    simp only [pu1, pu2, pu3, pu4]
    with_reducible refine gw_not (by kernel_rfl) (some 14) rfl ?_
    simp only [pu1, pu2, pu3, pu4]
    with_reducible refine gw_not (by kernel_rfl) (some 15) rfl ?_
    simp only [pu1, pu2, pu3, pu4]
    refine gw_val (by kernel_rfl) (some 16) rfl (.bool true) (by kernel_rfl) ?_
    simp only [pu1, pu2, pu3, pu4]
    refine gw_val (by kernel_rfl) (some 17) rfl (.bool true) (by kernel_rfl) ?_
    simp only [pu1, pu2, pu3, pu4]
    with_reducible refine gw_not (by kernel_rfl) (some 18) rfl ?_
    simp only [pu1, pu2, pu3, pu4]
    with_reducible refine gw_not (by kernel_rfl) (some 19) rfl ?_
    simp only [pu1, pu2, pu3, pu4]
    refine gw_val (by kernel_rfl) (some 20) rfl (.bool true) (by kernel_rfl) ?_
    simp only [pu1, pu2, pu3, pu4]
    refine gw_val (by kernel_rfl) (some 2) rfl (.bool true) (by kernel_rfl) ?_
    simp only [pu1, pu2, pu3, pu4]
    apply wpList_nil
    go_wp2_with fail
    go_ret
    exact ⟨rfl, rfl⟩
  · have HE : nmB c = true := by
      simp only [nmB, Bool.or_eq_true, Bool.and_eq_true, decide_eq_true_eq]; omega
    rw [HE]
    go_enter Tryd.func47, Tryd.ntmps47
    go_upto_region 1 with fail
    apply wp_region_lit
    refine gw_val (by kernel_rfl) (some 3) rfl (.int .u8 c) (by kernel_rfl) ?_
    simp only [pu1, pu2, pu3, pu4]
    refine gw_val (by kernel_rfl) (some 4) rfl (.bool false) (leq_u rfl (97) (c) (decide_eq_false (by omega)) (by kernel_rfl) (by kernel_rfl) _) ?_
    simp only [pu1, pu2, pu3, pu4]
    refine gw_val (by kernel_rfl) (some 5) rfl (.bool false) (by kernel_rfl) ?_
    simp only [pu1, pu2, pu3, pu4]
    with_reducible refine gw_not (by kernel_rfl) (some 6) rfl ?_
    simp only [pu1, pu2, pu3, pu4]
    with_reducible refine gw_not (by kernel_rfl) (some 7) rfl ?_
    simp only [pu1, pu2, pu3, pu4]
    refine gw_val (by kernel_rfl) (some 8) rfl (.bool false) (by kernel_rfl) ?_
    simp only [pu1, pu2, pu3, pu4]
    refine gw_val (by kernel_rfl) (some 9) rfl (.bool false) (by kernel_rfl) ?_
    simp only [pu1, pu2, pu3, pu4]
    refine gw_val (by kernel_rfl) (some 10) rfl (.int .u8 c) (by kernel_rfl) ?_
    simp only [pu1, pu2, pu3, pu4]
    refine gw_val (by kernel_rfl) (some 11) rfl (.bool true) (leq_u rfl (48) (c) (decide_eq_true (by omega)) (by kernel_rfl) (by kernel_rfl) _) ?_
    simp only [pu1, pu2, pu3, pu4]
    refine gw_val (by kernel_rfl) (some 12) rfl (.bool true) (by kernel_rfl) ?_
    simp only [pu1, pu2, pu3, pu4]
    refine gw_val (by kernel_rfl) (some 13) rfl (.int .u8 c) (by kernel_rfl) ?_
    simp only [pu1, pu2, pu3, pu4]
    refine gw_val (by kernel_rfl) (some 14) rfl (.bool true) (leq_u rfl (c) (57) (decide_eq_true (by omega)) (by kernel_rfl) (by kernel_rfl) _) ?_
    simp only [pu1, pu2, pu3, pu4]
    refine gw_val (by kernel_rfl) (some 15) rfl (.bool true) (by kernel_rfl) ?_
    simp only [pu1, pu2, pu3, pu4]
    refine gw_val (by kernel_rfl) (some 16) rfl (.bool true) (by kernel_rfl) ?_
    simp only [pu1, pu2, pu3, pu4]
    refine gw_val (by kernel_rfl) (some 17) rfl (.bool true) (by kernel_rfl) ?_
    simp only [pu1, pu2, pu3, pu4]
    with_reducible refine gw_not (by kernel_rfl) (some 18) rfl ?_
    simp only [pu1, pu2, pu3, pu4]
    with_reducible refine gw_not (by kernel_rfl) (some 19) rfl ?_
    simp only [pu1, pu2, pu3, pu4]
    refine gw_val (by kernel_rfl) (some 20) rfl (.bool true) (by kernel_rfl) ?_
    simp only [pu1, pu2, pu3, pu4]
    refine gw_val (by kernel_rfl) (some 2) rfl (.bool true) (by kernel_rfl) ?_
    simp only [pu1, pu2, pu3, pu4]
    apply wpList_nil
    go_wp2_with fail
    go_ret
    exact ⟨rfl, rfl⟩
  · have HE : nmB c = true := by
      simp only [nmB, Bool.or_eq_true, Bool.and_eq_true, decide_eq_true_eq]; omega
    rw [HE]
    go_enter Tryd.func47, Tryd.ntmps47
    go_upto_region 1 with fail
    apply wp_region_lit
    refine gw_val (by kernel_rfl) (some 3) rfl (.int .u8 c) (by kernel_rfl) ?_
    simp only [pu1, pu2, pu3, pu4]
    refine gw_val (by kernel_rfl) (some 4) rfl (.bool false) (leq_u rfl (97) (c) (decide_eq_false (by omega)) (by kernel_rfl) (by kernel_rfl) _) ?_
    simp only [pu1, pu2, pu3, pu4]
    refine gw_val (by kernel_rfl) (some 5) rfl (.bool false) (by kernel_rfl) ?_
    simp only [pu1, pu2, pu3, pu4]
    with_reducible refine gw_not (by kernel_rfl) (some 6) rfl ?_
    simp only [pu1, pu2, pu3, pu4]
    with_reducible refine gw_not (by kernel_rfl) (some 7) rfl ?_
    simp only [pu1, pu2, pu3, pu4]
    refine gw_val (by kernel_rfl) (some 8) rfl (.bool false) (by kernel_rfl) ?_
    simp only [pu1, pu2, pu3, pu4]
    refine gw_val (by kernel_rfl) (some 9) rfl (.bool false) (by kernel_rfl) ?_
    simp only [pu1, pu2, pu3, pu4]
    refine gw_val (by kernel_rfl) (some 10) rfl (.int .u8 c) (by kernel_rfl) ?_
    simp only [pu1, pu2, pu3, pu4]
    refine gw_val (by kernel_rfl) (some 11) rfl (.bool false) (leq_u rfl (48) (c) (decide_eq_false (by omega)) (by kernel_rfl) (by kernel_rfl) _) ?_
    simp only [pu1, pu2, pu3, pu4]
    refine gw_val (by kernel_rfl) (some 12) rfl (.bool false) (by kernel_rfl) ?_
    simp only [pu1, pu2, pu3, pu4]
    with_reducible refine gw_not (by kernel_rfl) (some 13) rfl ?_
    simp only [pu1, pu2, pu3, pu4]
    with_reducible refine gw_not (by kernel_rfl) (some 14) rfl ?_
    simp only [pu1, pu2, pu3, pu4]
    refine gw_val (by kernel_rfl) (some 15) rfl (.bool false) (by kernel_rfl) ?_
    simp only [pu1, pu2, pu3, pu4]
    refine gw_val (by kernel_rfl) (some 16) rfl (.bool false) (by kernel_rfl) ?_
    simp only [pu1, pu2, pu3, pu4]
    refine gw_val (by kernel_rfl) (some 17) rfl (.bool false) (by kernel_rfl) ?_
    simp only [pu1, pu2, pu3, pu4]
    refine gw_val (by kernel_rfl) (some 18) rfl (.int .u8 c) (by kernel_rfl) ?_
    simp only [pu1, pu2, pu3, pu4]
    refine gw_val (by kernel_rfl) (some 19) rfl (.bool true) (eql_u rfl (c) (45) (decide_eq_true (by omega)) (by kernel_rfl) (by kernel_rfl) _) ?_
    simp only [pu1, pu2, pu3, pu4]
    refine gw_val (by kernel_rfl) (some 20) rfl (.bool true) (by kernel_rfl) ?_
    simp only [pu1, pu2, pu3, pu4]
    refine gw_val (by kernel_rfl) (some 2) rfl (.bool true) (by kernel_rfl) ?_
    simp only [pu1, pu2, pu3, pu4]
    apply wpList_nil
    go_wp2_with fail
    go_ret
    exact ⟨rfl, rfl⟩
  · have HE : nmB c = false := by
      rw [Bool.eq_false_iff]; simp only [ne_eq, nmB, Bool.or_eq_true, Bool.and_eq_true, decide_eq_true_eq]; omega
    rw [HE]
    go_enter Tryd.func47, Tryd.ntmps47
    go_upto_region 1 with fail
    apply wp_region_lit
    refine gw_val (by kernel_rfl) (some 3) rfl (.int .u8 c) (by kernel_rfl) ?_
    simp only [pu1, pu2, pu3, pu4]
    refine gw_val (by kernel_rfl) (some 4) rfl (.bool true) (leq_u rfl (97) (c) (decide_eq_true (by omega)) (by kernel_rfl) (by kernel_rfl) _) ?_
    simp only [pu1, pu2, pu3, pu4]
    refine gw_val (by kernel_rfl) (some 5) rfl (.bool true) (by kernel_rfl) ?_
    simp only [pu1, pu2, pu3, pu4]
    refine gw_val (by kernel_rfl) (some 6) rfl (.int .u8 c) (by kernel_rfl) ?_
    simp only [pu1, pu2, pu3, pu4]
    refine gw_val (by kernel_rfl) (some 7) rfl (.bool false) (leq_u rfl (c) (122) (decide_eq_false (by omega)) (by kernel_rfl) (by kernel_rfl) _) ?_
    simp only [pu1, pu2, pu3, pu4]
    refine gw_val (by kernel_rfl) (some 8) rfl (.bool false) (by kernel_rfl) ?_
    simp only [pu1, pu2, pu3, pu4]
    refine gw_val (by kernel_rfl) (some 9) rfl (.bool false) (by kernel_rfl) ?_
    simp only [pu1, pu2, pu3, pu4]
    refine gw_val (by kernel_rfl) (some 10) rfl (.int .u8 c) (by kernel_rfl) ?_
    simp only [pu1, pu2, pu3, pu4]
    refine gw_val (by kernel_rfl) (some 11) rfl (.bool true) (leq_u rfl (48) (c) (decide_eq_true (by omega)) (by kernel_rfl) (by kernel_rfl) _) ?_
    simp only [pu1, pu2, pu3, pu4]
    refine gw_val (by kernel_rfl) (some 12) rfl (.bool true) (by kernel_rfl) ?_
    simp only [pu1, pu2, pu3, pu4]
    refine gw_val (by kernel_rfl) (some 13) rfl (.int .u8 c) (by kernel_rfl) ?_
    simp only [pu1, pu2, pu3, pu4]
    refine gw_val (by kernel_rfl) (some 14) rfl (.bool false) (leq_u rfl (c) (57) (decide_eq_false (by omega)) (by kernel_rfl) (by kernel_rfl) _) ?_
    simp only [pu1, pu2, pu3, pu4]
    refine gw_val (by kernel_rfl) (some 15) rfl (.bool false) (by kernel_rfl) ?_
    simp only [pu1, pu2, pu3, pu4]
    refine gw_val (by kernel_rfl) (some 16) rfl (.bool false) (by kernel_rfl) ?_
    simp only [pu1, pu2, pu3, pu4]
    refine gw_val (by kernel_rfl) (some 17) rfl (.bool false) (by kernel_rfl) ?_
    simp only [pu1, pu2, pu3, pu4]
    refine gw_val (by kernel_rfl) (some 18) rfl (.int .u8 c) (by kernel_rfl) ?_
    simp only [pu1, pu2, pu3, pu4]
    refine gw_val (by kernel_rfl) (some 19) rfl (.bool false) (eql_u rfl (c) (45) (decide_eq_false (by omega)) (by kernel_rfl) (by kernel_rfl) _) ?_
    simp only [pu1, pu2, pu3, pu4]
    refine gw_val (by kernel_rfl) (some 20) rfl (.bool false) (by kernel_rfl) ?_
    simp only [pu1, pu2, pu3, pu4]
    refine gw_val (by kernel_rfl) (some 2) rfl (.bool false) (by kernel_rfl) ?_
    simp only [pu1, pu2, pu3, pu4]
    apply wpList_nil
    go_wp2_with fail
    go_ret
    exact ⟨rfl, rfl⟩
  · have HE : nmB c = false := by
      rw [Bool.eq_false_iff]; simp only [ne_eq, nmB, Bool.or_eq_true, Bool.and_eq_true, decide_eq_true_eq]; omega
    rw [HE]
    go_enter Tryd.func47, Tryd.ntmps47
    go_upto_region 1 with fail
    apply wp_region_lit
    refine gw_val (by kernel_rfl) (some 3) rfl (.int .u8 c) (by kernel_rfl) ?_
    simp only [pu1, pu2, pu3, pu4]
    refine gw_val (by kernel_rfl) (some 4) rfl (.bool false) (leq_u rfl (97) (c) (decide_eq_false (by omega)) (by kernel_rfl) (by kernel_rfl) _) ?_
    simp only [pu1, pu2, pu3, pu4]
    refine gw_val (by kernel_rfl) (some 5) rfl (.bool false) (by kernel_rfl) ?_
    simp only [pu1, pu2, pu3, pu4]
    with_reducible refine gw_not (by kernel_rfl) (some 6) rfl ?_
    simp only [pu1, pu2, pu3, pu4]
    with_reducible refine gw_not (by kernel_rfl) (some 7) rfl ?_
    simp only [pu1, pu2, pu3, pu4]
    refine gw_val (by kernel_rfl) (some 8) rfl (.bool false) (by kernel_rfl) ?_
    simp only [pu1, pu2, pu3, pu4]
    refine gw_val (by kernel_rfl) (some 9) rfl (.bool false) (by kernel_rfl) ?_
    simp only [pu1, pu2, pu3, pu4]
    refine gw_val (by kernel_rfl) (some 10) rfl (.int .u8 c) (by kernel_rfl) ?_
    simp only [pu1, pu2, pu3, pu4]
    refine gw_val (by kernel_rfl) (some 11) rfl (.bool true) (leq_u rfl (48) (c) (decide_eq_true (by omega)) (by kernel_rfl) (by kernel_rfl) _) ?_
    simp only [pu1, pu2, pu3, pu4]
    refine gw_val (by kernel_rfl) (some 12) rfl (.bool true) (by kernel_rfl) ?_
    simp only [pu1, pu2, pu3, pu4]
    refine gw_val (by kernel_rfl) (some 13) rfl (.int .u8 c) (by kernel_rfl) ?_
    simp only [pu1, pu2, pu3, pu4]
    refine gw_val (by kernel_rfl) (some 14) rfl (.bool false) (leq_u rfl (c) (57) (decide_eq_false (by omega)) (by kernel_rfl) (by kernel_rfl) _) ?_
    simp only [pu1, pu2, pu3, pu4]
    refine gw_val (by kernel_rfl) (some 15) rfl (.bool false) (by kernel_rfl) ?_
    simp only [pu1, pu2, pu3, pu4]
    refine gw_val (by kernel_rfl) (some 16) rfl (.bool false) (by kernel_rfl) ?_
    simp only [pu1, pu2, pu3, pu4]
    refine gw_val (by kernel_rfl) (some 17) rfl (.bool false) (by kernel_rfl) ?_
    simp only [pu1, pu2, pu3, pu4]
    refine gw_val (by kernel_rfl) (some 18) rfl (.int .u8 c) (by kernel_rfl) ?_
    simp only [pu1, pu2, pu3, pu4]
    refine gw_val (by kernel_rfl) (some 19) rfl (.bool false) (eql_u rfl (c) (45) (decide_eq_false (by omega)) (by kernel_rfl) (by kernel_rfl) _) ?_
    simp only [pu1, pu2, pu3, pu4]
    refine gw_val (by kernel_rfl) (some 20) rfl (.bool false) (by kernel_rfl) ?_
    simp only [pu1, pu2, pu3, pu4]
    refine gw_val (by kernel_rfl) (some 2) rfl (.bool false) (by kernel_rfl) ?_
    simp only [pu1, pu2, pu3, pu4]
    apply wpList_nil
    go_wp2_with fail
    go_ret
    exact ⟨rfl, rfl⟩
  · have HE : nmB c = false := by
      rw [Bool.eq_false_iff]; simp only [ne_eq, nmB, Bool.or_eq_true, Bool.and_eq_true, decide_eq_true_eq]; omega
    rw [HE]
    go_enter Tryd.func47, Tryd.ntmps47
    go_upto_region 1 with fail
    apply wp_region_lit
    refine gw_val (by kernel_rfl) (some 3) rfl (.int .u8 c) (by kernel_rfl) ?_
    simp only [pu1, pu2, pu3, pu4]
    refine gw_val (by kernel_rfl) (some 4) rfl (.bool false) (leq_u rfl (97) (c) (decide_eq_false (by omega)) (by kernel_rfl) (by kernel_rfl) _) ?_
    simp only [pu1, pu2, pu3, pu4]
    refine gw_val (by kernel_rfl) (some 5) rfl (.bool false) (by kernel_rfl) ?_
    simp only [pu1, pu2, pu3, pu4]
    with_reducible refine gw_not (by kernel_rfl) (some 6) rfl ?_
    simp only [pu1, pu2, pu3, pu4]
    with_reducible refine gw_not (by kernel_rfl) (some 7) rfl ?_
    simp only [pu1, pu2, pu3, pu4]
    refine gw_val (by kernel_rfl) (some 8) rfl (.bool false) (by kernel_rfl) ?_
    simp only [pu1, pu2, pu3, pu4]
    refine gw_val (by kernel_rfl) (some 9) rfl (.bool false) (by kernel_rfl) ?_
    simp only [pu1, pu2, pu3, pu4]
    refine gw_val (by kernel_rfl) (some 10) rfl (.int .u8 c) (by kernel_rfl) ?_
    simp only [pu1, pu2, pu3, pu4]
    refine gw_val (by kernel_rfl) (some 11) rfl (.bool false) (leq_u rfl (48) (c) (decide_eq_false (by omega)) (by kernel_rfl) (by kernel_rfl) _) ?_
    simp only [pu1, pu2, pu3, pu4]
    refine gw_val (by kernel_rfl) (some 12) rfl (.bool false) (by kernel_rfl) ?_
    simp only [pu1, pu2, pu3, pu4]
    with_reducible refine gw_not (by kernel_rfl) (some 13) rfl ?_
    simp only [pu1, pu2, pu3, pu4]
    with_reducible refine gw_not (by kernel_rfl) (some 14) rfl ?_
    simp only [pu1, pu2, pu3, pu4]
    refine gw_val (by kernel_rfl) (some 15) rfl (.bool false) (by kernel_rfl) ?_
    simp only [pu1, pu2, pu3, pu4]
    refine gw_val (by kernel_rfl) (some 16) rfl (.bool false) (by kernel_rfl) ?_
    simp only [pu1, pu2, pu3, pu4]
    refine gw_val (by kernel_rfl) (some 17) rfl (.bool false) (by kernel_rfl) ?_
    simp only [pu1, pu2, pu3, pu4]
    refine gw_val (by kernel_rfl) (some 18) rfl (.int .u8 c) (by kernel_rfl) ?_
    simp only [pu1, pu2, pu3, pu4]
    refine gw_val (by kernel_rfl) (some 19) rfl (.bool false) (eql_u rfl (c) (45) (decide_eq_false (by omega)) (by kernel_rfl) (by kernel_rfl) _) ?_
    simp only [pu1, pu2, pu3, pu4]
    refine gw_val (by kernel_rfl) (some 20) rfl (.bool false) (by kernel_rfl) ?_
    simp only [pu1, pu2, pu3, pu4]
    refine gw_val (by kernel_rfl) (some 2) rfl (.bool false) (by kernel_rfl) ?_
    simp only [pu1, pu2, pu3, pu4]
    apply wpList_nil
    go_wp2_with fail
    go_ret
    exact ⟨rfl, rfl⟩
/-- A byte of a slice, its load. -/
theorem idx_u8 (b off n c k : Nat) (hk : k < n) (V : World) (ρ : Operand → Value) (o : Oper) {x y : Operand} (ho : o.op = .indexAddr 53 x y) (hx : ρ x = .slice (some ⟨b, off, none⟩) n c) (hy : ρ y = .int .i64 k) : (execOp ρ o).run Tryd.prog V = .ok (.value (.pointer (some ⟨b, off + k, none⟩))) V := by
  have hs : (sizeOf (Tryd.prog.elem 53)).run Tryd.prog V = .ok 1 V := by kernel_rfl
  have hlm : (k : Int) < (n : Int) := by omega
  unfold execOp
  simp only [ho, hx, hy]
  go_simp
theorem q_name_no {s : ByteArray} (h : s.size = 0 ∨ 20 < s.size) : isName (nums s) = false := by
  unfold isName
  rw [nums_len]
  rcases h with h | h
  · rw [h]; simp
  · rw [show decide (s.size ≤ 20) = false from decide_eq_false (by omega)]; simp
set_option maxRecDepth 100000 in
set_option maxHeartbeats 8000000 in
theorem q_isname (s : ByteArray) (w : World) : Calls Tryd.prog 25 #[.string s] w fun e w' => e = .returned (.bool (isName (nums s))) ∧ Below w.heap.size w w' := by
  have HNO := Lib.hid (@q_name_no s)
  obtain ⟨n, hn⟩ : ∃ n, s.size = n := ⟨_, rfl⟩
  rw [hn] at HNO
  rcases (show n = 0 ∨ 20 < n ∨ (1 ≤ n ∧ n ≤ 20) by omega) with hc | hc | hc
  · skip
    rw [HNO.out (.inl hc)]
    clear HNO
    go_enter Tryd.func25, Tryd.ntmps25
    go_upto_region 1 with fail
    apply wp_region_lit
    refine gw_val (by kernel_rfl) (some 5) rfl (.string s) (by kernel_rfl) ?_
    simp only [pu1, pu2, pu3, pu4]
    refine gw_val (by kernel_rfl) (some 6) rfl (.int .i64 n) (by rw [← hn]; kernel_rfl) ?_
    simp only [pu1, pu2, pu3, pu4]
    refine gw_val (by kernel_rfl) (some 7) rfl (.bool true) (lss_n rfl (n) (1) (decide_eq_true (by omega)) (by kernel_rfl) (by kernel_rfl) _) ?_
    simp only [pu1, pu2, pu3, pu4]
    refine gw_val (by kernel_rfl) (some 8) rfl (.bool true) (by kernel_rfl) ?_
    simp only [pu1, pu2, pu3, pu4]
    with_reducible refine gw_not (by kernel_rfl) (some 9) rfl ?_
    simp only [pu1, pu2, pu3, pu4]
    with_reducible refine gw_not (by kernel_rfl) (some 10) rfl ?_
    simp only [pu1, pu2, pu3, pu4]
    with_reducible refine gw_not (by kernel_rfl) (some 11) rfl ?_
    simp only [pu1, pu2, pu3, pu4]
    refine gw_val (by kernel_rfl) (some 12) rfl (.bool true) (by kernel_rfl) ?_
    simp only [pu1, pu2, pu3, pu4]
    apply wpList_nil
    go_upto_region 2 with fail
    apply wp_region_lit
    refine gw_val (by kernel_rfl) (some 2) rfl (.bool false) (by kernel_rfl) ?_
    simp only [pu1, pu2, pu3, pu4]
    apply wpList_nil
    go_wp2_with fail
    go_ret
    exact ⟨rfl, Below.refl _ _⟩
  · skip
    rw [HNO.out (.inr hc)]
    clear HNO
    go_enter Tryd.func25, Tryd.ntmps25
    go_upto_region 1 with fail
    apply wp_region_lit
    refine gw_val (by kernel_rfl) (some 5) rfl (.string s) (by kernel_rfl) ?_
    simp only [pu1, pu2, pu3, pu4]
    refine gw_val (by kernel_rfl) (some 6) rfl (.int .i64 n) (by rw [← hn]; kernel_rfl) ?_
    simp only [pu1, pu2, pu3, pu4]
    refine gw_val (by kernel_rfl) (some 7) rfl (.bool false) (lss_n rfl (n) (1) (decide_eq_false (by omega)) (by kernel_rfl) (by kernel_rfl) _) ?_
    simp only [pu1, pu2, pu3, pu4]
    refine gw_val (by kernel_rfl) (some 8) rfl (.bool false) (by kernel_rfl) ?_
    simp only [pu1, pu2, pu3, pu4]
    refine gw_val (by kernel_rfl) (some 9) rfl (.string s) (by kernel_rfl) ?_
    simp only [pu1, pu2, pu3, pu4]
    refine gw_val (by kernel_rfl) (some 10) rfl (.int .i64 n) (by rw [← hn]; kernel_rfl) ?_
    simp only [pu1, pu2, pu3, pu4]
    refine gw_val (by kernel_rfl) (some 11) rfl (.bool true) (gtr_n rfl (n) (20) (decide_eq_true (by omega)) (by kernel_rfl) (by kernel_rfl) _) ?_
    simp only [pu1, pu2, pu3, pu4]
    refine gw_val (by kernel_rfl) (some 12) rfl (.bool true) (by kernel_rfl) ?_
    simp only [pu1, pu2, pu3, pu4]
    apply wpList_nil
    go_upto_region 2 with fail
    apply wp_region_lit
    refine gw_val (by kernel_rfl) (some 2) rfl (.bool false) (by kernel_rfl) ?_
    simp only [pu1, pu2, pu3, pu4]
    apply wpList_nil
    go_wp2_with fail
    go_ret
    exact ⟨rfl, Below.refl _ _⟩
  · skip
    obtain ⟨hbw, hsl, hsz⟩ := conv_world w s (grownCap w s.size 0 5)
    have CV := fun (ρ : Operand → Value) (o : Oper) (x : Operand) ho hx => conv_s (ρ := ρ) (o := o) (x := x) ho s hx w
    generalize grownCap w s.size 0 5 = d at *
    generalize Lib.bytesWorld w 5 s = W at *
    obtain ⟨q, hq⟩ : ∃ q, w.heap.size = q := ⟨_, rfl⟩
    have HB := Lib.hid hbw
    rw [hq] at CV hsl
    rw [hn] at CV
    have HL := Lib.hid (nums_len s)
    obtain ⟨L, hL⟩ : ∃ L, nums s = L := ⟨_, rfl⟩
    rw [hL] at HL hsl ⊢
    have HS := Lib.hid hsl
    have HALL := Lib.hid (fun i (h : i < L.length) => all_no h)
    have HYES := Lib.hid (@all_yes L)
    clear hbw hsl hsz HNO hL
    go_enter Tryd.func25, Tryd.ntmps25
    go_upto_region 1 with fail
    apply wp_region_lit
    refine gw_val (by kernel_rfl) (some 5) rfl (.string s) (by kernel_rfl) ?_
    simp only [pu1, pu2, pu3, pu4]
    refine gw_val (by kernel_rfl) (some 6) rfl (.int .i64 n) (by rw [← hn]; kernel_rfl) ?_
    simp only [pu1, pu2, pu3, pu4]
    refine gw_val (by kernel_rfl) (some 7) rfl (.bool false) (lss_n rfl (n) (1) (decide_eq_false (by omega)) (by kernel_rfl) (by kernel_rfl) _) ?_
    simp only [pu1, pu2, pu3, pu4]
    refine gw_val (by kernel_rfl) (some 8) rfl (.bool false) (by kernel_rfl) ?_
    simp only [pu1, pu2, pu3, pu4]
    refine gw_val (by kernel_rfl) (some 9) rfl (.string s) (by kernel_rfl) ?_
    simp only [pu1, pu2, pu3, pu4]
    refine gw_val (by kernel_rfl) (some 10) rfl (.int .i64 n) (by rw [← hn]; kernel_rfl) ?_
    simp only [pu1, pu2, pu3, pu4]
    refine gw_val (by kernel_rfl) (some 11) rfl (.bool false) (gtr_n rfl (n) (20) (decide_eq_false (by omega)) (by kernel_rfl) (by kernel_rfl) _) ?_
    simp only [pu1, pu2, pu3, pu4]
    refine gw_val (by kernel_rfl) (some 12) rfl (.bool false) (by kernel_rfl) ?_
    simp only [pu1, pu2, pu3, pu4]
    apply wpList_nil
    go_upto_region 3 with fail
    apply wp_region_lit
    refine gw_val (by kernel_rfl) (some 13) rfl (.string s) (by kernel_rfl) ?_
    simp only [pu1, pu2, pu3, pu4]
    refine gw_new (by kernel_rfl) (some 14) rfl (.slice (some ⟨q, 0, none⟩) n d) W (CV _ _ _ rfl (by kernel_rfl)) ?_
    simp only [pu1, pu2, pu3, pu4]
    refine gw_val (by kernel_rfl) (some 15) rfl (.int .i64 n) (by kernel_rfl) ?_
    simp only [pu1, pu2, pu3, pu4]
    refine gw_val (by kernel_rfl) (some 16) rfl (.int .i64 0) (by kernel_rfl) ?_
    simp only [pu1, pu2, pu3, pu4]
    apply wpList_nil
    clear CV
    go_wp2_with fail
    go_loopg [16] n (fun gg s16 wx => ∃ i : Nat, s16 = .int .i64 i ∧ i ≤ n ∧ (∀ j, j < i → nmB (L.getD j 0) = true) ∧ wx = W ∧ n - i = gg)
    case atStart => exact ⟨0, rfl, by omega, fun j hj => by omega, rfl, by omega⟩
    case round =>
      obtain ⟨i, rfl, hi, hyes, rfl, hg⟩ := hrel
      by_cases hlt : i < n
      · skip
        have HG : Hid (n - (i + 1) = gk - 1 ∧ 0 < gk ∧ i + 1 ≤ n) := Lib.hid ⟨by omega, by omega, by omega⟩
        have hil : i < L.length := by rw [HL.out, hn]; omega
        obtain ⟨b, off, e1, -, hcell⟩ := sl_at HS.out hil
        simp only [Option.some.injEq, Addr.mk.injEq, and_true] at e1
        obtain ⟨rfl, rfl⟩ := e1
        have hno := HALL.out i hil
        obtain ⟨c, hc⟩ : ∃ c, L.getD i 0 = c := ⟨_, rfl⟩
        rw [hc] at hcell hno
        have HYS : Hid (nmB c = true → ∀ j, j < i + 1 → nmB (L.getD j 0) = true) := Lib.hid fun hb j hj => by
          by_cases e : j = i
          · rw [e, hc]; exact hb
          · exact hyes j (by omega)
        have HNE : Hid (nmB c = false → isName L = false) := Lib.hid hno
        have CI := q_inname c wr
        clear hc hyes hg hno hil
        generalize nmB c = tb at *
        go_upto_region 4 with fail
        apply wp_region_lit
        refine gw_val (by kernel_rfl) (some 17) rfl (.bool true) (lss_n rfl (i) (n) (decide_eq_true (by omega)) (by kernel_rfl) (by kernel_rfl) _) ?_
        simp only [pu1, pu2, pu3, pu4]
        apply wpList_nil
        go_upto_region 5 with fail
        apply wp_region_lit
        refine gw_val (by kernel_rfl) (some 18) rfl (.pointer (some ⟨q, 0 + i, none⟩)) (idx_u8 q 0 n d i hlt _ _ _ rfl (by kernel_rfl) (by kernel_rfl)) ?_
        simp only [pu1, pu2, pu3, pu4]
        refine gw_load (by kernel_rfl) (some 19) rfl 5 (.tmp 18) rfl ⟨q, 0 + i, none⟩ (.int .u8 c) (by kernel_rfl) (load_cell hcell (by kernel_rfl)) ?_
        simp only [pu1, pu2, pu3, pu4]
        refine gw_val (by kernel_rfl) (some 4) rfl (.int .u8 c) (by kernel_rfl) ?_
        simp only [pu1, pu2, pu3, pu4]
        apply wpList_nil
        go_upto_region 6 with fail
        cases tb
        · skip
          apply wp_region_lit
          refine gw_val (by kernel_rfl) (some 20) rfl (.int .u8 c) (by kernel_rfl) ?_
          simp only [pu1, pu2, pu3, pu4]
          refine gw_call (by kernel_rfl) (some 21) rfl 47 #[.int .u8 c] (.bool false) (fun w' => wr = w') (by kernel_rfl) (CI) (fun V9 hV9 => ?_)
          subst hV9
          simp only [pu1, pu2, pu3, pu4]
          refine gw_val (by kernel_rfl) (some 22) rfl (.bool true) (by kernel_rfl) ?_
          simp only [pu1, pu2, pu3, pu4]
          apply wpList_nil
          have HE := Lib.hid (HNE.out rfl)
          clear HNE HYS CI hcell
          go_upto_region 7 with fail
          apply wp_region_lit
          refine gw_val (by kernel_rfl) (some 2) rfl (.bool false) (by kernel_rfl) ?_
          simp only [pu1, pu2, pu3, pu4]
          apply wpList_nil
          go_wp2_with fail
          go_ret
          rw [HE.out]
          exact ⟨rfl, HB.out⟩
        · skip
          apply wp_region_lit
          refine gw_val (by kernel_rfl) (some 20) rfl (.int .u8 c) (by kernel_rfl) ?_
          simp only [pu1, pu2, pu3, pu4]
          refine gw_call (by kernel_rfl) (some 21) rfl 47 #[.int .u8 c] (.bool true) (fun w' => wr = w') (by kernel_rfl) (CI) (fun V9 hV9 => ?_)
          subst hV9
          simp only [pu1, pu2, pu3, pu4]
          refine gw_val (by kernel_rfl) (some 22) rfl (.bool false) (by kernel_rfl) ?_
          simp only [pu1, pu2, pu3, pu4]
          apply wpList_nil
          have HY2 := Lib.hid (HYS.out rfl)
          clear HNE HYS CI hcell
          go_upto_region 8 with fail
          apply wp_region_lit
          refine gw_val (by kernel_rfl) (some 23) rfl (.int .i64 (i + 1 : Nat)) (add_nat rfl i 1 (by omega) (by kernel_rfl) (by kernel_rfl) _) ?_
          simp only [pu1, pu2, pu3, pu4]
          refine gw_val (by kernel_rfl) (some 16) rfl (.int .i64 (i + 1 : Nat)) (by kernel_rfl) ?_
          simp only [pu1, pu2, pu3, pu4]
          apply wpList_nil
          go_wp2_with fail
          go_roundg (gk - 1)
          case measure => have := HG.out; omega
          case rel => exact ⟨i + 1, rfl, HG.out.2.2, HY2.out, rfl, HG.out.1⟩
      · skip
        have hall := HYES.out (fun j hj => hyes j (by rw [HL.out, hn] at hj; omega))
        have HV : Hid (isName L = true) := Lib.hid (by unfold isName; rw [hall, HL.out, hn, decide_eq_true hc.1, decide_eq_true hc.2]; rfl)
        clear hyes hall hg HALL HYES
        go_upto_region 4 with fail
        apply wp_region_lit
        refine gw_val (by kernel_rfl) (some 17) rfl (.bool false) (lss_n rfl (i) (n) (decide_eq_false (by omega)) (by kernel_rfl) (by kernel_rfl) _) ?_
        simp only [pu1, pu2, pu3, pu4]
        apply wpList_nil
        go_upto_region 9 with fail
        apply wp_region_lit
        refine gw_val (by kernel_rfl) (some 2) rfl (.bool true) (by kernel_rfl) ?_
        simp only [pu1, pu2, pu3, pu4]
        apply wpList_nil
        go_wp2_with fail
        go_ret
        rw [HV.out]
        exact ⟨rfl, HB.out⟩
end Go.Proofs.YtebnlklodokhkaaDoor.Lg
