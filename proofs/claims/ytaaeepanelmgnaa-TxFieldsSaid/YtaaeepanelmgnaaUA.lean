/-
  Rows of fields whose bytes lie anywhere apart from the row; the reference's number and text over them.
-/
import Derived.Test.YtaaeepanelmgnaaUF
import Derived.Test.YtaaeepanelmgnaaWG
import Derived.Lib.ConvBytes
namespace Go.Proofs.Ytaaeepanelmgnaa
open Go.RowKit
set_option linter.unusedSimpArgs false
set_option linter.unusedVariables false

/-- A field's bytes, apart from a row. -/
def Apt (w : World) (B : Nat) (v : Value) (p : Fld × Value) : Prop := ∃ a c, p.2 = .slice a p.1.bytes.length c ∧ Sl w a c p.1.bytes ∧ ∀ x, a = some x → B ≤ x.block ∧ x.block < w.heap.size ∧ v.ownBlock ≠ some x.block
def RowS (w : World) (B : Nat) (v : Value) (ps : List (Fld × Value)) : Prop := w.ownsRow B 54 4 v ps.length (row4 ps) ∧ ∀ p, p ∈ ps → Apt w B v p
theorem RowS.nil (w : World) (B : Nat) : RowS w B (.slice none 0 0) [] := ⟨World.ownsRow_nil _ _ _ _, fun p h => by simp at h⟩
theorem Apt.below {w w' : World} {B : Nat} {v : Value} {p : Fld × Value} (h : Apt w B v p) (hb : Below w.heap.size w w') : Apt w' B v p := by
  obtain ⟨a, c, h1, h2, h3⟩ := h
  exact ⟨a, c, h1, sl_below h2 hb, fun x hx => ⟨(h3 x hx).1, Nat.lt_of_lt_of_le (h3 x hx).2.1 hb.size, (h3 x hx).2.2⟩⟩
theorem RowS.below {w w' : World} {B : Nat} {v : Value} {ps : List (Fld × Value)} (h : RowS w B v ps) (hb : Below w.heap.size w w') : RowS w' B v ps := ⟨own_below h.1 hb, fun p hp => (h.2 p hp).below hb⟩
theorem RowS.form {w : World} {B : Nat} {v : Value} {ps : List (Fld × Value)} (h : RowS w B v ps) : ∃ a c, v = .slice a ps.length c ∧ ps.length ≤ c := by
  rcases h.1.2 with ⟨rfl, h0⟩ | ⟨g, cap, cur, rfl, _, _, hcap, _⟩
  · exact ⟨none, 0, by rw [h0], by omega⟩
  · exact ⟨_, cap, rfl, hcap⟩
theorem RowS.fs {w : World} {B : Nat} {v : Value} {ps : List (Fld × Value)} (h : RowS w B v ps) : ∃ a c, v = .slice a ps.length c ∧ ps.length ≤ c ∧ Fs w a ps := by
  obtain ⟨a, c, rfl, hc⟩ := h.form
  refine ⟨a, c, rfl, hc, fun i p hi => ?_⟩
  have hlt : i < ps.length := (List.getElem?_eq_some_iff.1 hi).1
  obtain ⟨g, rfl, hg, hgl⟩ := own_at h.1 (by omega)
  obtain ⟨ba, bc, hb, hs, -⟩ := h.2 p (List.mem_of_getElem? hi)
  refine ⟨g, 0, ba, bc, rfl, hb, hs, ?_, ?_, ?_, ?_⟩
  · rw [h.1.cellAt _ (by omega), show 0 + i * 4 = i * 4 + 0 by omega, row4_get ps i 0 p hi (by omega)]
    rfl
  · rw [h.1.cellAt _ (by omega), show 0 + i * 4 + 1 = i * 4 + 1 by omega, row4_get ps i 1 p hi (by omega)]
    rfl
  · rw [h.1.cellAt _ (by omega), show 0 + i * 4 + 2 = i * 4 + 2 by omega, row4_get ps i 2 p hi (by omega)]
    rfl
  · rw [h.1.cellAt _ (by omega), show 0 + i * 4 + 3 = i * 4 + 3 by omega, row4_get ps i 3 p hi (by omega)]
    simp only [cellsOf, List.getElem?_cons_succ, List.getElem?_cons_zero, hb]
theorem Apt.but {w w' : World} {B g : Nat} {v : Value} {p : Fld × Value} (h : Apt w B v p) (hb : But g w w') (hg : g < B) : Apt w' B v p := by
  obtain ⟨a, c, h1, h2, h3⟩ := h
  refine ⟨a, c, h1, ?_, fun x hx => ⟨(h3 x hx).1, Nat.lt_of_lt_of_le (h3 x hx).2.1 hb.1.size, (h3 x hx).2.2⟩⟩
  rcases h2 with h2 | ⟨x, rfl, hx⟩
  · exact .inl h2
  · refine .inr ⟨x, rfl, fun k hk => ?_⟩
    obtain ⟨b, off, rfl, hc⟩ := hx k hk
    have q := (h3 _ rfl).1
    exact ⟨b, off, rfl, (World.cell?_of_block (a := ⟨b, off + k, none⟩) (hb.2 b (World.block_lt_of_cell? w _ hc) (by have : B ≤ b := q; omega))).trans hc⟩
theorem RowS.but {w w' : World} {B g : Nat} {v : Value} {ps : List (Fld × Value)} (h : RowS w B v ps) (hb : But g w w') (hg : g < B) : RowS w' B v ps := ⟨own_but h.1 hb hg, fun p hp => (h.2 p hp).but hb hg⟩
theorem Apt.grown {w w' : World} {B : Nat} {v v' : Value} {p : Fld × Value} (h : Apt w B v p) (hg : w.grownBy w' v.ownBlock) (hat : v'.ownBlock = v.ownBlock ∨ v'.ownBlock = some w.heap.size) : Apt w' B v' p := by
  obtain ⟨a, c, h1, h2, h3⟩ := h
  refine ⟨a, c, h1, ?_, fun x hx => ⟨(h3 x hx).1, Nat.lt_of_lt_of_le (h3 x hx).2.1 hg.size, fun e => ?_⟩⟩
  · rcases h2 with h2 | ⟨x, rfl, hx⟩
    · exact .inl h2
    · refine .inr ⟨x, rfl, fun k hk => ?_⟩
      obtain ⟨b, off, rfl, hc⟩ := hx k hk
      exact ⟨b, off, rfl, hg.cell hc fun e => (h3 _ rfl).2.2 e.symm⟩
  · rcases hat with h4 | h4
    · exact (h3 x hx).2.2 (h4.symm.trans e)
    · have h5 := h4.symm.trans e
      have := (h3 x hx).2.1
      simp only [Option.some.injEq] at h5
      omega
/-- A field is appended. -/
theorem grow_s {w : World} {B : Nat} {v : Value} {ps : List (Fld × Value)} (h : RowS w B v ps) (hB : B ≤ w.heap.size) (x : Fld) (b : Option Addr) (d : Nat) (hx : Apt w B v (x, .slice b x.bytes.length d)) (hl : ps.length ≤ 100000) :
    ∃ v2 V2, (Builtin.append_ #[50, 50] 50 #[v, .slice (some ⟨w.heap.size, 0, none⟩) 1 1]).run Try.prog (w.alloc (.cells (fdA x b d) 54)) = .ok v2 V2 ∧ RowS V2 B v2 (ps ++ [(x, .slice b x.bytes.length d)]) ∧ Below B w V2 := by
  have hba : Below w.heap.size w (w.alloc (.cells (fdA x b d) 54)) := (Below.refl _ w).alloc (Nat.le_refl _) _
  have hO := own_below h.1 hba
  have hsz : (w.alloc (.cells (fdA x b d) 54)).heap.size = w.heap.size + 1 := by simp
  obtain ⟨i0, hi, hz0, hz1, hz2⟩ := info_parts info25
  obtain ⟨v2, V2, hr, hO2, hg, -, hat⟩ := run_append_own_at (P := Try.prog) (w.alloc (.cells (fdA x b d) 54)) B 50 50 54 i0 _ 4 48 (by kernel_rfl) hi hz0 hz1 hz2 (by kernel_rfl) (by omega) v ps.length (row4 ps) hO ⟨w.heap.size, 0, none⟩ 1 1 (cellsOf (x, .slice b x.bytes.length d)) rfl (fun j u hu => by
    rw [Go.WideShapes.add_plain, cell_of_row _ w.heap.size (0 + j) _ 54 (0, 0) (heap_alloc_last w _), Nat.zero_add]
    simpa [cellsOf] using hu) (fun u hu => by
    simp only [cellsOf, List.mem_cons, List.not_mem_nil, or_false] at hu
    rcases hu with rfl | rfl | rfl | rfl <;> rfl) (by unfold maxLen; omega) (by omega) (by omega)
  refine ⟨v2, V2, hr, ⟨by rw [row4_snoc, List.length_append]; exact hO2, fun p hp => ?_⟩, (hba.mono hB).trans ((Below.refl _ _).grown hg (by omega) fun j hj => (hO.lt j hj).1)⟩
  rcases List.mem_append.1 hp with hp | hp
  · exact ((h.2 p hp).below hba).grown hg hat
  · obtain rfl : p = (x, .slice b x.bytes.length d) := by simpa using hp
    exact (hx.below hba).grown hg hat
def FldS (w : World) (B : Nat) (ps : List (Fld × Value)) (X : List Fld) (e : Ending) (w' : World) : Prop := ∃ v qs, e = .returned v ∧ qs.map Prod.fst = ps.map Prod.fst ++ X ∧ RowS w' B v qs ∧ Below B w w'
theorem Apt.non (w : World) (B : Nat) (v : Value) (x : Fld) (h : x.bytes = []) : Apt w B v (x, .slice none x.bytes.length 0) := ⟨none, 0, rfl, .inl ⟨rfl, rfl, h⟩, fun y hy => by cases hy⟩
set_option maxRecDepth 100000 in
set_option maxHeartbeats 8000000 in
theorem ref_number2 (v : Value) (ps : List (Fld × Value)) (B : Nat) (k val : Int) (w : World) (h : RowS w B v ps) (hB : B ≤ w.heap.size) (hl : ps.length ≤ 100000) :
    Calls Try.prog 38 #[v, .int .i64 k, .int .u64 val] w (FldS w B ps (if val = 0 then [] else [⟨k, 0, val, []⟩])) := by
  by_cases h0 : val = 0
  · rw [if_pos h0]
    have HE := Lib.hid (⟨v, ps, rfl, by simp, h, Below.refl _ _⟩ : FldS w B ps [] (.returned v) w)
    clear h
    go_enter Try.func38, Try.ntmps38
    go_upto_region 1 with fail
    apply wp_region_lit
    refine gw_val (by kernel_rfl) (some 7) rfl (.int .u64 val) (by kernel_rfl) ?_
    simp only [pu1, pu2, pu3, pu4]
    refine gw_val (by kernel_rfl) (some 8) rfl (.bool true) (eql_u0 rfl val (decide_eq_true h0) (by kernel_rfl) (by kernel_rfl) _) ?_
    simp only [pu1, pu2, pu3, pu4]
    apply wpList_nil
    go_upto_region 2 with fail
    apply wp_region_lit
    refine gw_val (by kernel_rfl) (some 9) rfl (v) (by kernel_rfl) ?_
    simp only [pu1, pu2, pu3, pu4]
    refine gw_val (by kernel_rfl) (some 6) rfl (v) (by kernel_rfl) ?_
    simp only [pu1, pu2, pu3, pu4]
    apply wpList_nil
    go_wp2_with fail
    go_ret
    exact HE.out
  · rw [if_neg h0]
    obtain ⟨v2, V2, hap, hr2, hb2⟩ := grow_s h hB ⟨k, 0, val, []⟩ none 0 (Apt.non w B v _ rfl) hl
    have HE := Lib.hid (⟨v2, _, rfl, by simp, hr2, hb2⟩ : FldS w B ps [⟨k, 0, val, []⟩] (.returned v2) V2)
    clear h hr2 hb2
    go_enter Try.func38, Try.ntmps38
    go_upto_region 1 with fail
    apply wp_region_lit
    refine gw_val (by kernel_rfl) (some 7) rfl (.int .u64 val) (by kernel_rfl) ?_
    simp only [pu1, pu2, pu3, pu4]
    refine gw_val (by kernel_rfl) (some 8) rfl (.bool false) (eql_u0 rfl val (decide_eq_false h0) (by kernel_rfl) (by kernel_rfl) _) ?_
    simp only [pu1, pu2, pu3, pu4]
    apply wpList_nil
    go_upto_region 3 with fail
    apply wp_region_lit
    refine gw_val (by kernel_rfl) (some 10) rfl (v) (by kernel_rfl) ?_
    simp only [pu1, pu2, pu3, pu4]
    refine gw_val (by kernel_rfl) (some 11) rfl (.int .i64 k) (by kernel_rfl) ?_
    simp only [pu1, pu2, pu3, pu4]
    refine gw_val (by kernel_rfl) (some 12) rfl (.int .u64 val) (by kernel_rfl) ?_
    simp only [pu1, pu2, pu3, pu4]
    refine gw_val (by kernel_rfl) (some 13) rfl (.agg (fdA (⟨k, 0, val, []⟩ : Fld) none 0)) (by kernel_rfl) ?_
    simp only [pu1, pu2, pu3, pu4]
    refine gw_build (by kernel_rfl) (some 14) rfl 50 1 #[(0, .tmp 13)] rfl #[(0, .agg (fdA (⟨k, 0, val, []⟩ : Fld) none 0))] (by kernel_rfl) (.slice (some ⟨w.heap.size, 0, none⟩) 1 1) _ (build_fd (⟨k, 0, val, []⟩ : Fld) none 0 w) ?_
    simp only [pu1, pu2, pu3, pu4]
    refine append_step rfl (some 15) rfl 50 rfl (.tmp 10) (.tmp 14) 50 rfl (v) (.slice (some ⟨w.heap.size, 0, none⟩) 1 1) (v2) V2 (by kernel_rfl) (by kernel_rfl) hap ?_
    simp only [pu1, pu2, pu3, pu4]
    refine gw_val (by kernel_rfl) (some 6) rfl (v2) (by kernel_rfl) ?_
    simp only [pu1, pu2, pu3, pu4]
    apply wpList_nil
    clear hap
    go_wp2_with fail
    go_ret
    exact HE.out
theorem eql_s {ρ : Operand → Value} {o : Oper} {x y : Operand} (ho : o.op = .binOp .eql 9 x y 9) (a b : ByteArray) {t : Bool} (ht : (a == b) = t) (hx : ρ x = .string a) (hy : ρ y = .string b) (w : World) : (execOp ρ o).run Try.prog w = .ok (.value (.bool t)) w := by
  have e : (a.toList == b.toList) = t := by rw [← beq_toListBytes]; exact ht
  unfold execOp
  simp only [ho, hx, hy]
  go_simp
theorem mt_true {s : ByteArray} (h : s.size = 0) : (s == (⟨#[]⟩ : ByteArray)) = true := by
  have e : s = ⟨#[]⟩ := ByteArray.ext (Array.eq_empty_of_size_eq_zero h)
  subst e
  rfl
theorem mt_false {s : ByteArray} (h : s.size ≠ 0) : (s == (⟨#[]⟩ : ByteArray)) = false := by
  rw [Bool.eq_false_iff]
  intro e
  rw [beq_toListBytes] at e
  have e2 := eq_of_beq e
  rw [ByteArray.toList_eq, ByteArray.toList_eq] at e2
  have e3 := congrArg List.length e2
  exact h (by simpa using e3)
theorem conv_s {ρ : Operand → Value} {o : Oper} {x : Operand} (ho : o.op = .convert 9 39 x) (s : ByteArray) (hx : ρ x = .string s) (w : World) : (execOp ρ o).run Try.prog w = .ok (.value (.slice (some ⟨w.heap.size, 0, none⟩) s.size (grownCap w s.size 0 5))) (Lib.bytesWorld w 5 s) := by
  have h := Lib.run_convert_string_bytes (P := Try.prog) w 9 39 5 s Try.underlying9 Try.underlying39 Try.underlying5
  unfold execOp
  simp only [ho, hx, Sem.run_bind, h]
  rfl
/-- What the conversion leaves. -/
theorem conv_world (w : World) (s : ByteArray) (c : Nat) : Below w.heap.size w (Lib.bytesWorld w 5 s) ∧ Sl (Lib.bytesWorld w 5 s) (some ⟨w.heap.size, 0, none⟩) c (nums s) ∧ (Lib.bytesWorld w 5 s).heap.size = w.heap.size + 1 := by
  refine ⟨⟨rfl, rfl, rfl, by rw [Lib.bytesWorld_size]; omega, fun k hk => Lib.bytesWorld_at_old w _ s k hk⟩, .inr ⟨_, rfl, fun k hk => ⟨w.heap.size, 0, rfl, ?_⟩⟩, Lib.bytesWorld_size w _ s⟩
  rw [nums_len] at hk
  rw [Nat.zero_add, Lib.bytesWorld_cell w _ s k hk]
  unfold nums
  simp [List.getD_eq_getElem?_getD, List.getElem?_map]
  cases h : s.data[k]? with
  | none =>
    rw [Array.getElem?_eq_none_iff] at h
    exact absurd hk (by show ¬ k < s.data.size; omega)
  | some u => simp
set_option maxRecDepth 100000 in
set_option maxHeartbeats 8000000 in
theorem ref_text (v : Value) (ps : List (Fld × Value)) (B : Nat) (k : Int) (s : ByteArray) (w : World) (h : RowS w B v ps) (hB : B ≤ w.heap.size) (hl : ps.length ≤ 100000) :
    Calls Try.prog 37 #[v, .int .i64 k, .string s] w (FldS w B ps (if s.size = 0 then [] else [⟨k, 2, 0, nums s⟩])) := by
  by_cases h0 : s.size = 0
  · rw [if_pos h0]
    have HE := Lib.hid (⟨v, ps, rfl, by simp, h, Below.refl _ _⟩ : FldS w B ps [] (.returned v) w)
    have HQ := mt_true h0
    clear h
    go_enter Try.func37, Try.ntmps37
    go_upto_region 1 with fail
    apply wp_region_lit
    refine gw_val (by kernel_rfl) (some 7) rfl (.string s) (by kernel_rfl) ?_
    simp only [pu1, pu2, pu3, pu4]
    refine gw_val (by kernel_rfl) (some 8) rfl (.bool true) (eql_s rfl s ⟨#[]⟩ HQ (by kernel_rfl) (by kernel_rfl) _) ?_
    simp only [pu1, pu2, pu3, pu4]
    apply wpList_nil
    go_upto_region 2 with fail
    apply wp_region_lit
    refine gw_val (by kernel_rfl) (some 9) rfl (v) (by kernel_rfl) ?_
    simp only [pu1, pu2, pu3, pu4]
    refine gw_val (by kernel_rfl) (some 6) rfl (v) (by kernel_rfl) ?_
    simp only [pu1, pu2, pu3, pu4]
    apply wpList_nil
    go_wp2_with fail
    go_ret
    exact HE.out
  · rw [if_neg h0]
    obtain ⟨hbw, hsl, hsz⟩ := conv_world w s (grownCap w s.size 0 5)
    have HQ := mt_false h0
    have CV := fun (ρ : Operand → Value) (o : Oper) (x : Operand) ho hx => conv_s (ρ := ρ) (o := o) (x := x) ho s hx w
    generalize grownCap w s.size 0 5 = d at *
    generalize Lib.bytesWorld w 5 s = W at *
    obtain ⟨q, hq⟩ : ∃ q, w.heap.size = q := ⟨_, rfl⟩
    have hap0 : Apt W B v ((⟨k, 2, 0, nums s⟩ : Fld), .slice (some ⟨q, 0, none⟩) (nums s).length d) := ⟨_, _, rfl, by rw [← hq]; exact hsl, fun x hx => by
      cases hx
      refine ⟨by show B ≤ q; omega, by show q < _; omega, fun e => ?_⟩
      have h4 : q < w.heap.size := (h.1.lt _ e).2
      omega⟩
    obtain ⟨v2, V2, hap, hr2, hb2⟩ := grow_s (h.below hbw) (by omega) ⟨k, 2, 0, nums s⟩ (some ⟨q, 0, none⟩) d hap0 hl
    have HE := Lib.hid (⟨v2, _, rfl, by simp, hr2, (hbw.mono hB).trans hb2⟩ : FldS w B ps [⟨k, 2, 0, nums s⟩] (.returned v2) V2)
    rw [hq] at CV
    rw [← nums_len s] at CV
    clear h hr2 hb2 hap0 hsl hbw hsz hq
    generalize nums s = L at *
    go_enter Try.func37, Try.ntmps37
    go_upto_region 1 with fail
    apply wp_region_lit
    refine gw_val (by kernel_rfl) (some 7) rfl (.string s) (by kernel_rfl) ?_
    simp only [pu1, pu2, pu3, pu4]
    refine gw_val (by kernel_rfl) (some 8) rfl (.bool false) (eql_s rfl s ⟨#[]⟩ HQ (by kernel_rfl) (by kernel_rfl) _) ?_
    simp only [pu1, pu2, pu3, pu4]
    apply wpList_nil
    go_upto_region 3 with fail
    apply wp_region_lit
    refine gw_val (by kernel_rfl) (some 10) rfl (v) (by kernel_rfl) ?_
    simp only [pu1, pu2, pu3, pu4]
    refine gw_val (by kernel_rfl) (some 11) rfl (.int .i64 k) (by kernel_rfl) ?_
    simp only [pu1, pu2, pu3, pu4]
    refine gw_val (by kernel_rfl) (some 12) rfl (.string s) (by kernel_rfl) ?_
    simp only [pu1, pu2, pu3, pu4]
    refine gw_new (by kernel_rfl) (some 13) rfl (.slice (some ⟨q, 0, none⟩) L.length d) W (CV _ _ _ rfl (by kernel_rfl)) ?_
    simp only [pu1, pu2, pu3, pu4]
    refine gw_val (by kernel_rfl) (some 14) rfl (.agg (fdA (⟨k, 2, 0, L⟩ : Fld) (some ⟨q, 0, none⟩) d)) (by kernel_rfl) ?_
    simp only [pu1, pu2, pu3, pu4]
    refine gw_build (by kernel_rfl) (some 15) rfl 50 1 #[(0, .tmp 14)] rfl #[(0, .agg (fdA (⟨k, 2, 0, L⟩ : Fld) (some ⟨q, 0, none⟩) d))] (by kernel_rfl) (.slice (some ⟨W.heap.size, 0, none⟩) 1 1) _ (build_fd (⟨k, 2, 0, L⟩ : Fld) (some ⟨q, 0, none⟩) d W) ?_
    simp only [pu1, pu2, pu3, pu4]
    refine append_step rfl (some 16) rfl 50 rfl (.tmp 10) (.tmp 15) 50 rfl (v) (.slice (some ⟨W.heap.size, 0, none⟩) 1 1) (v2) V2 (by kernel_rfl) (by kernel_rfl) hap ?_
    simp only [pu1, pu2, pu3, pu4]
    refine gw_val (by kernel_rfl) (some 6) rfl (v2) (by kernel_rfl) ?_
    simp only [pu1, pu2, pu3, pu4]
    apply wpList_nil
    clear hap CV
    go_wp2_with fail
    go_ret
    exact HE.out
end Go.Proofs.Ytaaeepanelmgnaa
