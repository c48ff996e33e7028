/-
 The closure of read, IndexFunc at settings, isSpace, isDecimal: contracts.
-/
import Derived.Test.YtplfineaomneiaaDoorXL
import Derived.Test.YtplfineaomneiaaDoorRD
import Derived.Test.YtplfineaomneiaaDoorRT
import Derived.Laws.RangeString
import Derived.Laws.RangeAny
namespace Go.Proofs.YtplfineaomneiaaDoor
attribute [local irreducible] wpList wpQuiet
open Go.RowKit
set_option maxRecDepth 100000
set_option linter.unusedSimpArgs false
set_option linter.unusedVariables false

set_option maxRecDepth 100000 in
set_option maxHeartbeats 8000000 in
theorem p_key {kb s : ByteArray} (sx sy sz : Value) {w : World} {g7 k7 n c : Nat} {a : Option Addr} {S : List ByteArray} (h7 : Bx w g7 #[.slice a n c] k7) (hW : Cs w a (strs S)) (hn : S.length = n) (h0 : 0 < n) (hs : S.getD 0 (⟨#[]⟩ : ByteArray) = s) (h1 : sx.oneCell' = true) (h2 : sy.oneCell' = true) (h3 : sz.oneCell' = true) : Calls Tryd.prog 50 #[.agg #[.string kb, sx, sy, sz], .pointer (some ⟨g7, 0, none⟩)] w fun e w' => e = .returned (.bool (kb == s)) ∧ Below w.heap.size w w' := by
 obtain ⟨b, off, hq1, -, hc1⟩ := strs_get hW (k := 0) (by omega)
 obtain rfl := hq1
 rw [hs] at hc1
 have HC1 : Hid (∀ U, Below w.heap.size w U → (Instr.loadAt 9 (.pointer (some ⟨b, off + 0, none⟩))).run Tryd.prog U = .ok (.string s) U) := Lib.hid fun U hU => load_cell (cell_below hU hc1) (by kernel_rfl)
 have H7 := Lib.hid h7
 obtain ⟨q, hq⟩ : ∃ q, (kb == s) = q := ⟨_, rfl⟩
 rw [hq]
 clear hW hn hs hc1 h7
 go_enter Tryd.func50, Tryd.ntmps50
 go_upto_region 1 with fail
 change Code.wp _ _ _ _ (w.alloc (.cells #[.string kb, sx, sy, sz] 59))
 have hb_0 : Below w.heap.size w (w.alloc (.cells #[.string kb, sx, sy, sz] 59)) := (Below.refl _ w).alloc (Nat.le_refl _) _
 have hX2 : Bx (w.alloc (.cells #[.string kb, sx, sy, sz] 59)) w.heap.size #[.string kb, sx, sy, sz] 59 := heap_alloc_last w _
 have hs_0 : (w.alloc (.cells #[.string kb, sx, sy, sz] 59)).heap.size = w.heap.size + 1 := by simp
 generalize w.alloc (.cells #[.string kb, sx, sy, sz] 59) = W at *
 obtain ⟨g2, hg2⟩ : ∃ g, w.heap.size = g := ⟨_, rfl⟩
 rw [hg2] at hX2
 have HGE : Hid (g2 = w.heap.size + 0 ∧ W.heap.size = w.heap.size + 1) := Lib.hid ⟨by omega, by omega⟩
 have HB := Lib.hid hb_0
 simp only [hg2]
 clear hb_0 hs_0 hg2
 have hX7 := H7.out.below H7.out.lt HB.out
 have hWU := fun U (h : Below W.heap.size W U) => HB.out.trans (h.mono HB.out.size)
 clear HGE
 refine wp_region_class (C := fun U => Below W.heap.size W U) (by kernel_rfl) (by kernel_rfl) ((Below.refl _ W).drew) ?_
 refine gy (.pointer (some ⟨g2, 0, none⟩)) <| gyl rfl ⟨g2, 0, none⟩ (.string kb) (fun U hU => (hX2.below hX2.lt hU).load (i := 0) rfl (by kernel_rfl)) <| gyl rfl ⟨g7, 0, none⟩ (.slice (some ⟨b, off, none⟩) n c) (fun U hU => (hX7.below hX7.lt hU).load (i := 0) rfl (by kernel_rfl)) <|
   gyv (.pointer (some ⟨b, off + 0, none⟩)) (fun U hU => idx_str b off n c 0 h0 _ _ _ rfl (by kernel_rfl) (by kernel_rfl)) <| gyl rfl ⟨b, off + 0, none⟩ (.string s) (fun U hU => HC1.out U (hWU U hU)) <| gyv (.bool q) (fun U hU => eql_s rfl kb s hq (by kernel_rfl) (by kernel_rfl) U) <| gy (.bool q) ?_
 simp only [pu]
 apply wpQuiet_nil
 intro V hV
 go_wp2_with fail
 go_ret
 exact ⟨rfl, HB.out.trans (hV.mono HB.out.size)⟩
set_option maxRecDepth 100000 in
set_option maxHeartbeats 8000000 in
theorem p_index {w : World} {gs g k g7 k7 n c : Nat} {a : Option Addr} {S : List ByteArray} {s : ByteArray} (hS : Bx w gs (stC g).toArray k) (h7 : Bx w g7 #[.slice a n c] k7) (hW : Cs w a (strs S)) (hn : S.length = n) (h0 : 0 < n) (hs : S.getD 0 (⟨#[]⟩ : ByteArray) = s) : Calls Tryd.prog 49 #[.slice (some ⟨gs, 0, none⟩) 12 12, .func (.func 50) #[] #[.pointer (some ⟨g7, 0, none⟩)]] w fun e w' => e = .returned (.int .i64 (idxI (nums s) keysL)) ∧ Below w.heap.size w w' := by
 have HCL : Hid (∀ i, i < 12 → ∀ V, Below w.heap.size w V → Calls Tryd.prog 50 #[.agg (sgA g i), .pointer (some ⟨g7, 0, none⟩)] V fun e w' => e = .returned (.bool (keysB.getD i (⟨#[]⟩ : ByteArray) == s)) ∧ Below V.heap.size V w') := Lib.hid fun i hi V hV => p_key _ _ _ (h7.below h7.lt hV) (hW.below hV) hn h0 hs rfl rfl rfl
 have HLS : Hid (∀ i, i < 12 → ∀ V, Below w.heap.size w V → (Instr.loadAt 59 (.pointer (some ⟨gs, 0 + i * 4, none⟩))).run Tryd.prog V = .ok (.agg (sgA g i)) V) := Lib.hid fun i hi V hV => load_st (hS.below hS.lt hV) hi
 have HH : Hid (∀ i, i < 12 → keysB.getD i (⟨#[]⟩ : ByteArray) = s → (∀ j, j < i → keysB.getD j (⟨#[]⟩ : ByteArray) ≠ s) → (i : Int) = idxI (nums s) keysL) := Lib.hid fun i hi h hno => by
  unfold idxI
  rw [← keys_nums, idxL_hit (keysB.map nums) i 0 (by rw [List.length_map]; exact hi) (by rw [getD_nums keysB hi, h]) fun j hj e => hno j hj (nums_inj (by rw [← getD_nums keysB (by show j < 12; omega)]; exact e)), Nat.zero_add]
 have HNO : Hid ((∀ j, j < 12 → keysB.getD j (⟨#[]⟩ : ByteArray) ≠ s) → (-1 : Int) = idxI (nums s) keysL) := Lib.hid fun hno => by
  unfold idxI
  rw [← keys_nums, idxL_none (keysB.map nums) 0 fun j hj e => by
   rw [List.length_map] at hj
   exact hno j hj (nums_inj (by rw [← getD_nums keysB hj]; exact e))]
 obtain ⟨z, hz⟩ : ∃ z, idxI (nums s) keysL = z := ⟨_, rfl⟩
 rw [hz] at HH HNO ⊢
 clear hS h7 hW hn h0 hs hz
 go_enter Tryd.func49, Tryd.ntmps49
 go_upto_region 1 with fail
 refine wl <| gz3 (.slice (some ⟨gs, 0, none⟩) 12 12) (.int .i64 12) (.int .i64 0) <| wn ?_
 simp only [pu]
 go_wp2_with fail
 go_loopg [8] 12 (fun gg s8 wx => ∃ (i : Nat), s8 = .int .i64 i ∧ i ≤ 12 ∧ gg + i = 12 ∧ Hid (∀ j, j < i → keysB.getD j (⟨#[]⟩ : ByteArray) ≠ s) ∧ Hid (Below w.heap.size w wx))
 case atStart => exact ⟨0, rfl, by omega, by omega, Lib.hid (fun j hj => absurd hj (Nat.not_lt_zero j)), Lib.hid (Below.refl _ _)⟩
 case round =>
  obtain ⟨i, hs8, hin, hg, HP, HR⟩ := hrel
  obtain rfl := hs8
  have HGK : Hid (gk + i = 12) := Lib.hid hg
  clear hg
  by_cases hlt : i < 12
  ·skip
   have hls := HLS.out i hlt wr HR.out
   have hcl := HCL.out i hlt wr HR.out
   have HS2 : Hid (¬ keysB.getD i (⟨#[]⟩ : ByteArray) = s → ∀ j, j < i + 1 → keysB.getD j (⟨#[]⟩ : ByteArray) ≠ s) := Lib.hid fun h j hj => if hh : j < i then HP.out j hh else by rwa [show j = i by omega]
   have HH2 : Hid (keysB.getD i (⟨#[]⟩ : ByteArray) = s → (i : Int) = z) := Lib.hid fun h => HH.out i hlt h HP.out
   generalize sgA g i = SG at *
   rw [beqB] at hcl
   by_cases he9 : keysB.getD i (⟨#[]⟩ : ByteArray) = s
   ·skip
    rw [decide_eq_true he9] at hcl
    go_upto_region 2 with fail
    refine wl <| gzb (lss_n rfl (i) (12) dT) <| wn ?_
    simp only [pu]
    go_upto_region 3 with fail
    refine wl <| gz2 (.int .i64 i) (.int .i64 i) <| wn ?_
    simp only [pu]
    go_upto_region 4 with fail
    refine wl <| gz3 (.func (.func 50) #[] #[.pointer (some ⟨g7, 0, none⟩)]) (.slice (some ⟨gs, 0, none⟩) 12 12) (.int .i64 i) <| gzv (.pointer (some ⟨gs, 0 + i * 4, none⟩)) (idx_st gs 0 12 12 i hlt _ _ _ rfl (by kernel_rfl) (by kernel_rfl)) <|
     gzl rfl ⟨gs, 0 + i * 4, none⟩ (.agg SG) (hls) <| gzc (.bool true) (fun w' => Below wr.heap.size wr w') (hcl) (fun V2 hb2 => ?_)
    simp only [pu]
    apply wpList_nil
    have HR2 := Lib.hid (HR.out.trans (hb2.mono HR.out.size))
    obtain rfl := HH2.out he9
    clear he9 HS2 HP HH HH2 HNO HCL HLS hls hcl hb2
    go_upto_region 5 with fail
    refine wl <| gz2 (.int .i64 i) (.int .i64 i) <| wn ?_
    simp only [pu]
    go_wp2_with fail
    go_ret
    exact ⟨rfl, HR2.out⟩
   ·skip
    rw [decide_eq_false he9] at hcl
    go_upto_region 2 with fail
    refine wl <| gzb (lss_n rfl (i) (12) dT) <| wn ?_
    simp only [pu]
    go_upto_region 3 with fail
    refine wl <| gz2 (.int .i64 i) (.int .i64 i) <| wn ?_
    simp only [pu]
    go_upto_region 4 with fail
    refine wl <| gz3 (.func (.func 50) #[] #[.pointer (some ⟨g7, 0, none⟩)]) (.slice (some ⟨gs, 0, none⟩) 12 12) (.int .i64 i) <| gzv (.pointer (some ⟨gs, 0 + i * 4, none⟩)) (idx_st gs 0 12 12 i hlt _ _ _ rfl (by kernel_rfl) (by kernel_rfl)) <|
     gzl rfl ⟨gs, 0 + i * 4, none⟩ (.agg SG) (hls) <| gzc (.bool false) (fun w' => Below wr.heap.size wr w') (hcl) (fun V2 hb2 => ?_)
    simp only [pu]
    apply wpList_nil
    have HR2 := Lib.hid (HR.out.trans (hb2.mono HR.out.size))
    have HP2 := Lib.hid (HS2.out he9)
    clear he9 HS2 HP HH2 hls hcl hb2
    go_upto_region 6 with fail
    refine wl <| gzv (.int .i64 (i + 1 : Nat)) (add_one rfl i (by omega) (by kernel_rfl) _) <| gz1 (.int .i64 (i + 1 : Nat)) <| wn ?_
    simp only [pu]
    go_wp2_with fail
    go_roundg (12 - (i + 1))
    case measure => have := HGK.out; omega
    case rel => exact ⟨i + 1, rfl, by omega, by omega, HP2, HR2⟩
  ·skip
   obtain rfl : i = 12 := by omega
   obtain rfl := HNO.out HP.out
   clear HP HNO HH HCL HLS
   go_upto_region 2 with fail
   refine wl <| gzb (lss_n rfl ((12 : Nat)) (12) dF) <| wn ?_
   simp only [pu]
   go_upto_region 7 with fail
   refine wl <| gz1 (.int .i64 (-1)) <| wn ?_
   simp only [pu]
   go_wp2_with fail
   go_ret
   exact ⟨rfl, HR.out⟩
section
variable {ρ : Operand → Value} {o : Oper} {x y : Operand}
theorem eql_r (ho : o.op = .binOp .eql 21 x y 21) (a b : Int) {t : Bool} (ht : decide (a = b) = t) (hx : ρ x = .int .i32 a) (hy : ρ y = .int .i32 b) (w : World) : (execOp ρ o).run Tryd.prog w = .ok (.value (.bool t)) w := by
 have e : (a == b) = t := ht
 unfold execOp
 simp only [ho, hx, hy]
 go_simp
theorem lss_r (ho : o.op = .binOp .lss 21 x y 21) (a b : Int) {t : Bool} (ht : decide (a < b) = t) (hx : ρ x = .int .i32 a) (hy : ρ y = .int .i32 b) (w : World) : (execOp ρ o).run Tryd.prog w = .ok (.value (.bool t)) w := by
 unfold execOp
 simp only [ho, hx, hy]
 go_simp
theorem gtr_r (ho : o.op = .binOp .gtr 21 x y 21) (a b : Int) {t : Bool} (ht : decide (b < a) = t) (hx : ρ x = .int .i32 a) (hy : ρ y = .int .i32 b) (w : World) : (execOp ρ o).run Tryd.prog w = .ok (.value (.bool t)) w := by
 unfold execOp
 simp only [ho, hx, hy]
 go_simp
theorem neq_st (ho : o.op = .binOp .neq 9 x y 9) (a b : ByteArray) {t : Bool} (ht : decide (a ≠ b) = t) (hx : ρ x = .string a) (hy : ρ y = .string b) (w : World) : (execOp ρ o).run Tryd.prog w = .ok (.value (.bool t)) w := by
 have h := neq_s ho a b rfl hx hy w
 rw [h, beqB, ← ht]
 by_cases e : a = b <;> simp [e]
end
def spR (r : Int) : Bool := decide (r = 9) || decide (r = 32) || decide (r = 160) || decide (r = 8195) || decide (r = 12288)
set_option maxRecDepth 100000 in
set_option maxHeartbeats 8000000 in
theorem p_space (r : Int) (w : World) : Calls Tryd.prog 63 #[.int .i32 r] w fun e w' => e = .returned (.bool (spR r)) ∧ w = w' := by
 unfold spR
 go_enter Tryd.func63, Tryd.ntmps63
 go_upto_region 1 with fail
 refine wl <| gz1 (.int .i32 r) <| wn ?_
 simp only [pu]
 by_cases h0 : r = 9
 ·skip
  go_upto_region 2 with fail
  refine wl <| gzb (eql_r rfl r 9 (decide_eq_true h0)) <| gz1 (.bool true) <| wn ?_
  simp only [pu]
  go_upto_region 7 with fail
  refine wl <| gz1 (.bool true) <| wn ?_
  simp only [pu]
  go_wp2_with fail
  go_ret
  exact ⟨by rw [decide_eq_true h0]; simp, rfl⟩
 ·skip
  go_upto_region 2 with fail
  refine wl <| gzb (eql_r rfl r 9 (decide_eq_false h0)) <| gz1 (.bool false) <| wn ?_
  simp only [pu]
  by_cases h1 : r = 32
  ·skip
   go_upto_region 3 with fail
   refine wl <| gzb (eql_r rfl r 32 (decide_eq_true h1)) <| gz1 (.bool true) <| wn ?_
   simp only [pu]
   go_upto_region 7 with fail
   refine wl <| gz1 (.bool true) <| wn ?_
   simp only [pu]
   go_wp2_with fail
   go_ret
   exact ⟨by rw [decide_eq_true h1]; simp, rfl⟩
  ·skip
   go_upto_region 3 with fail
   refine wl <| gzb (eql_r rfl r 32 (decide_eq_false h1)) <| gz1 (.bool false) <| wn ?_
   simp only [pu]
   by_cases h2 : r = 160
   ·skip
    go_upto_region 4 with fail
    refine wl <| gzb (eql_r rfl r 160 (decide_eq_true h2)) <| gz1 (.bool true) <| wn ?_
    simp only [pu]
    go_upto_region 7 with fail
    refine wl <| gz1 (.bool true) <| wn ?_
    simp only [pu]
    go_wp2_with fail
    go_ret
    exact ⟨by rw [decide_eq_true h2]; simp, rfl⟩
   ·skip
    go_upto_region 4 with fail
    refine wl <| gzb (eql_r rfl r 160 (decide_eq_false h2)) <| gz1 (.bool false) <| wn ?_
    simp only [pu]
    by_cases h3 : r = 8195
    ·skip
     go_upto_region 5 with fail
     refine wl <| gzb (eql_r rfl r 8195 (decide_eq_true h3)) <| gz1 (.bool true) <| wn ?_
     simp only [pu]
     go_upto_region 7 with fail
     refine wl <| gz1 (.bool true) <| wn ?_
     simp only [pu]
     go_wp2_with fail
     go_ret
     exact ⟨by rw [decide_eq_true h3]; simp, rfl⟩
    ·skip
     go_upto_region 5 with fail
     refine wl <| gzb (eql_r rfl r 8195 (decide_eq_false h3)) <| gz1 (.bool false) <| wn ?_
     simp only [pu]
     by_cases h4 : r = 12288
     ·skip
      go_upto_region 6 with fail
      refine wl <| gzb (eql_r rfl r 12288 (decide_eq_true h4)) <| gz1 (.bool true) <| wn ?_
      simp only [pu]
      go_upto_region 7 with fail
      refine wl <| gz1 (.bool true) <| wn ?_
      simp only [pu]
      go_wp2_with fail
      go_ret
      exact ⟨by rw [decide_eq_true h4]; simp, rfl⟩
     ·skip
      go_upto_region 6 with fail
      refine wl <| gzb (eql_r rfl r 12288 (decide_eq_false h4)) <| gz1 (.bool false) <| wn ?_
      simp only [pu]
      go_upto_region 8 with fail
      refine wl <| gz1 (.bool false) <| wn ?_
      simp only [pu]
      go_wp2_with fail
      go_ret
      exact ⟨by rw [decide_eq_false h0, decide_eq_false h1, decide_eq_false h2, decide_eq_false h3, decide_eq_false h4]; rfl, rfl⟩
theorem run_next_str (w : World) (s : ByteArray) (pos : Nat) (ty : TypeId) (h : pos < s.size) :
  (Instr.next (.pointer (some ⟨w.heap.size, 0, none⟩)) true ty).run Tryd.prog (w.iter s pos) =
   .ok (.tuple #[.bool true, .int .i64 pos, .int .i32 (Utf8.decode s pos).1]) (w.iter s (pos + (Utf8.decode s pos).2)) := by
 simp only [Instr.next, getObj, setObj, Sem.run_bind, Sem.run, World.iter_heap, Result.andThen, h, if_true, World.iter_set]
 simp [goInt, Sem.run, World.iter_heap, World.iter_set]
theorem ex_next {ρ : Operand → Value} {o : Oper} {x : Operand} (ho : o.op = .next x true) (w : World) (s : ByteArray) (pos : Nat) (h : pos < s.size) (hx : ρ x = .pointer (some ⟨w.heap.size, 0, none⟩)) :
  (execOp ρ o).run Tryd.prog (w.iter s pos) = .ok (.value (.tuple #[.bool true, .int .i64 pos, .int .i32 (Utf8.decode s pos).1])) (w.iter s (pos + (Utf8.decode s pos).2)) := by
 unfold execOp
 simp only [ho, hx, Sem.run_bind, run_next_str w s pos _ h]
 rfl
theorem ex_over {ρ : Operand → Value} {o : Oper} {x : Operand} (ho : o.op = .next x true) (w : World) (s : ByteArray) (pos : Nat) (h : ¬ pos < s.size) (hx : ρ x = .pointer (some ⟨w.heap.size, 0, none⟩)) :
  (execOp ρ o).run Tryd.prog (w.iter s pos) = .ok (.value (.tuple #[.bool false])) (w.iter s pos) := by
 unfold execOp
 simp only [ho, hx, Sem.run_bind, run_next_end w s pos _ h]
 rfl
theorem ex_range {ρ : Operand → Value} {o : Oper} {x : Operand} (ho : o.op = .range 9 x) (w : World) (s : ByteArray) (hx : ρ x = .string s) :
  (execOp ρ o).run Tryd.prog w = .ok (.value (.pointer (some ⟨w.heap.size, 0, none⟩))) (w.iter s 0) := by
 unfold execOp
 simp only [ho, hx, Sem.run_bind, run_range_string w _ s Tryd.underlying9]
 rfl
theorem below_iter (w : World) (s : ByteArray) (i : Nat) : Below w.heap.size w (w.iter s i) := (Below.refl _ w).alloc (Nat.le_refl _) _
theorem dec_asc (s : ByteArray) {i : Nat} (hi : i < s.size) : ((nums s).getD i 0 < 128 → (Utf8.decode s i).2 = 1 ∧ ((Utf8.decode s i).1 : Int) = (nums s).getD i 0) ∧ (128 ≤ (nums s).getD i 0 → 128 ≤ ((Utf8.decode s i).1 : Int)) := by
 obtain ⟨h1, h2⟩ := dec_run s i
 refine ⟨fun h => ?_, fun h => ?_⟩
 ·have hk : runK (nums s) i = 1 := by unfold runK runN; rw [if_pos h]
  rw [hk, if_neg (by omega)] at h1 h2
  refine ⟨h1, ?_⟩
  rw [h2]; unfold runV; rw [hk]; rfl
 ·have := (decode_high s i hi (by rw [nums_at s i hi] at h; omega)).1
  omega
set_option maxRecDepth 100000 in
set_option maxHeartbeats 8000000 in
theorem p_dec (s : ByteArray) (hl : s.size ≤ 1000000) (w : World) : Calls Tryd.prog 64 #[.string s] w fun e w' => e = .returned (.bool (digitsX (nums s))) ∧ Below w.heap.size w w' := by
 have HRN := Lib.hid (fun (ρ : Operand → Value) (o : Oper) (x : Operand) ho hx => ex_range (ρ := ρ) (o := o) (x := x) ho w s hx)
 have HOV := Lib.hid (fun (ρ : Operand → Value) (o : Oper) (x : Operand) ho i h hx => ex_over (ρ := ρ) (o := o) (x := x) ho w s i h hx)
 have HNX := Lib.hid (fun (ρ : Operand → Value) (o : Oper) (x : Operand) ho i h hx => ex_next (ρ := ρ) (o := o) (x := x) ho w s i h hx)
 have HDA : Hid (∀ i, i < s.size → ((nums s).getD i 0 < 128 → (Utf8.decode s i).2 = 1 ∧ ((Utf8.decode s i).1 : Int) = (nums s).getD i 0) ∧ (128 ≤ (nums s).getD i 0 → 128 ≤ ((Utf8.decode s i).1 : Int))) := Lib.hid fun i hi => dec_asc s hi
 have HB := Lib.hid (below_iter w s)
 have HSA : Hid (∀ i, i < s.size → StrAt s i ((nums s).getD i 0)) := Lib.hid fun i hi => str_at s i hi
 have HLL := Lib.hid (nums_len s)
 have HEM : Hid (s = ⟨#[]⟩ ↔ (nums s).length = 0) := Lib.hid ⟨fun e => by rw [e]; rfl, fun e => nums_inj (by rw [List.eq_nil_of_length_eq_zero e]; rfl)⟩
 have HZ0 : Hid (s = ⟨#[48]⟩ ↔ nums s = [48]) := Lib.hid ⟨fun e => by rw [e]; rfl, fun e => nums_inj (by rw [e]; rfl)⟩
 obtain ⟨z, hz⟩ : ∃ z, digitsX (nums s) = z := ⟨_, rfl⟩
 rw [hz]
 generalize nums s = L at *
 have HBD : Hid (∀ i, i < L.length → ¬ (48 ≤ L.getD i 0 ∧ L.getD i 0 ≤ 57) → false = z) := Lib.hid fun i hi h => by rw [← hz]; exact (dig_bad hi h).symm
 have HE0 : Hid (L.length = 0 → false = z) := Lib.hid fun h => by rw [← hz]; exact (dig_empty h).symm
 have HZE : Hid (L = [48] → true = z) := Lib.hid fun h => by rw [← hz, h]; rfl
 have HLD : Hid (L ≠ [48] → 0 < L.length → L.getD 0 0 = 48 → false = z) := Lib.hid fun h hp h0 => by
  rw [← hz]
  refine (dig_lead ?_ h0).symm
  rcases Nat.lt_or_ge 1 L.length with h1 | h1
  ·exact h1
  ·refine absurd ?_ h
   match L, hp, h1 with
   | [x], _, _ => rw [show x = 48 from h0]
   | x :: y :: r, _, h1 => exact absurd h1 (by simp)
 have HYE : Hid ((∀ j, j < L.length → 48 ≤ L.getD j 0 ∧ L.getD j 0 ≤ 57) → 0 < L.length → L.getD 0 0 ≠ 48 → true = z) := Lib.hid fun h h0 h1 => by rw [← hz]; exact (dig_yes h h0 (.inr h1)).symm
 clear hz
 obtain ⟨n, hn⟩ : ∃ n, s.size = n := ⟨_, rfl⟩
 rw [hn] at HSA hl HDA HOV HNX
 rw [hn] at HLL
 rw [HLL.out] at HBD HE0 HLD HYE HEM
 obtain ⟨WI, hWI⟩ : ∃ WI : Nat → World, (fun i => w.iter s i) = WI := ⟨_, rfl⟩
 have HWI : ∀ i, w.iter s i = WI i := fun i => congrFun hWI i
 simp only [HWI] at HRN HOV HNX HB
 obtain ⟨q, hq⟩ : ∃ q, w.heap.size = q := ⟨_, rfl⟩
 rw [hq] at HRN HOV HNX
 clear hq hn hWI HWI
 go_enter Tryd.func64, Tryd.ntmps64
 go_upto_region 1 with fail
 refine wl <| gz1 (.string s) ?_
 simp only [pu]
 refine gw_new (by kernel_rfl) (some 6) rfl (.pointer (some ⟨q, 0, none⟩)) (WI 0) (HRN.out _ _ _ rfl (by kernel_rfl)) ?_
 simp only [pu]
 apply wpList_nil
 clear HRN
 go_wp2_with fail
 go_loopg [7] n (fun gg s7 wx => ∃ (i : Nat) (v : Value), s7 = v ∧ i ≤ n ∧ gg + i = n ∧ Hid (∀ j, j < i → 48 ≤ L.getD j 0 ∧ L.getD j 0 ≤ 57) ∧ wx = WI i)
 case atStart => exact ⟨0, _, rfl, by omega, by omega, Lib.hid (fun j hj => absurd hj (Nat.not_lt_zero j)), rfl⟩
 case round =>
  obtain ⟨i, vv7, hs7, hin, hg, HI, hwx⟩ := hrel
  obtain rfl := hs7.symm
  obtain rfl := hwx
  have HGK : Hid (gk + i = n) := Lib.hid hg
  clear hg
  by_cases hlt : i < n
  ·skip
   obtain ⟨hd1, hd2⟩ := HDA.out i hlt
   have hnx := fun ρ o x ho hx => HNX.out ρ o x ho i hlt hx
   have HB2 : Hid (¬ (48 ≤ L.getD i 0 ∧ L.getD i 0 ≤ 57) → false = z) := Lib.hid fun h => HBD.out i hlt h
   have HST : Hid ((48 ≤ L.getD i 0 ∧ L.getD i 0 ≤ 57) → ∀ j, j < i + 1 → 48 ≤ L.getD j 0 ∧ L.getD j 0 ≤ 57) := Lib.hid fun h j hj => if e : j < i then HI.out j e else by rw [show j = i by omega]; exact h
   obtain ⟨d1, hdq⟩ : ∃ d1 : Int, ((Utf8.decode s i).1 : Int) = d1 := ⟨_, rfl⟩
   rw [hdq] at hd1 hd2 hnx
   generalize (Utf8.decode s i).2 = d2 at *
   generalize L.getD i 0 = c at *
   have hcd : (48 ≤ c ∧ c ≤ 57 → d1 = c ∧ d2 = 1) ∧ (¬ (48 ≤ c ∧ c ≤ 57) → d1 < 48 ∨ 57 < d1) := by
    refine ⟨fun h => ⟨(hd1 (by omega)).2, (hd1 (by omega)).1⟩, fun h => ?_⟩
    by_cases h128 : c < 128
    ·have := (hd1 h128).2; omega
    ·have := hd2 (by omega); omega
   clear hdq hd1 hd2
   go_upto_region 2 with fail
   apply wp_region_lit
   refine gw_new (by kernel_rfl) (some 7) rfl (.tuple #[.bool true, .int .i64 i, .int .i32 d1]) (WI (i + d2)) (hnx _ _ _ rfl (by kernel_rfl)) ?_
   simp only [pu]
   refine gz1 (.bool true) <| wn ?_
   simp only [pu]
   clear hnx
   go_upto_region 3 with fail
   refine wl <| gz2 (.int .i32 d1) (.int .i32 d1) <| wn ?_
   simp only [pu]
   have HBE := Lib.hid (HB.out (i + d2))
   by_cases hc : 48 ≤ c ∧ c ≤ 57
   ·skip
    have hcc := hcd.1 hc
    have h48 : ¬ d1 < 48 := by omega
    have h57 : ¬ 57 < d1 := by omega
    have HI2 := Lib.hid (HST.out hc)
    have HD2 := Lib.hid hcc.2
    clear hcc hc hcd HST HB2 HI
    go_upto_region 4 with fail
    refine wl <| gz1 (.int .i32 d1) <| gzb (lss_r rfl d1 48 (decide_eq_false h48)) <| gz2 (.bool false) (.int .i32 d1) <| gzb (gtr_r rfl d1 57 (decide_eq_false h57)) <| gz1 (.bool false) <|
     wpList_nil ?_
    simp only [pu]
    go_wp2_with fail
    go_roundg (n - (i + 1))
    case measure => have := HGK.out; omega
    case rel => exact ⟨i + 1, _, rfl, by omega, by omega, HI2, by rw [HD2.out]⟩
   ·skip
    have hcc := hcd.2 hc
    obtain rfl := HB2.out hc
    clear hc hcd HST HB2 HI HBD HE0 HZE HLD HYE HB
    by_cases h48 : d1 < 48
    ·skip
     go_upto_region 4 with fail
     refine wl <| gz1 (.int .i32 d1) <| gzb (lss_r rfl d1 48 (decide_eq_true h48)) <| gz4 (.bool true) undef undef (.bool true) <| wn ?_
     simp only [pu]
     go_upto_region 5 with fail
     refine wl <| gz1 (.bool false) <| wn ?_
     simp only [pu]
     go_wp2_with fail
     go_ret
     exact ⟨rfl, HBE.out⟩
    ·skip
     have h57 : 57 < d1 := by omega
     go_upto_region 4 with fail
     refine wl <| gz1 (.int .i32 d1) <| gzb (lss_r rfl d1 48 (decide_eq_false h48)) <| gz2 (.bool false) (.int .i32 d1) <| gzb (gtr_r rfl d1 57 (decide_eq_true h57)) <| gz1 (.bool true) <|
      wpList_nil ?_
     simp only [pu]
     go_upto_region 5 with fail
     refine wl <| gz1 (.bool false) <| wn ?_
     simp only [pu]
     go_wp2_with fail
     go_ret
     exact ⟨rfl, HBE.out⟩
  ·skip
   obtain rfl : i = n := by omega
   have hov := fun ρ o x ho hx => HOV.out ρ o x ho i hlt hx
   have HBE := Lib.hid (HB.out i)
   clear HB HOV HNX HDA HBD
   go_upto_region 2 with fail
   apply wp_region_lit
   refine gw_new (by kernel_rfl) (some 7) rfl (.tuple #[.bool false]) (WI i) (hov _ _ _ rfl (by kernel_rfl)) ?_
   simp only [pu]
   refine gz1 (.bool false) <| wn ?_
   simp only [pu]
   clear hov
   go_upto_region 6 with fail
   by_cases hz0 : L = [48]
   ·skip
    have hse := HZ0.out.2 hz0
    obtain rfl := HZE.out hz0
    clear hz0 HZE HE0 HLD HYE HI
    refine wl <| gz1 (.string s) <| gzw (.bool true) (eql_s rfl s ⟨#[48]⟩ (by rw [beqB]; exact decide_eq_true hse)) <| gz6 (.bool true) undef undef undef undef undef <| gz4 undef undef (.bool true) (.bool true) <| wn ?_
    simp only [pu]
    go_wp2_with fail
    go_ret
    exact ⟨rfl, HBE.out⟩
   ·skip
    have hse : ¬ s = ⟨#[48]⟩ := fun h => hz0 (HZ0.out.1 h)
    by_cases hn0 : i = 0
    ·skip
     have hs0 := HEM.out.2 hn0
     obtain rfl := HE0.out hn0
     clear hn0 hz0 HZE HE0 HLD HYE HI
     refine wl <| gz1 (.string s) <| gzw (.bool false) (eql_s rfl s ⟨#[48]⟩ (by rw [beqB]; exact decide_eq_false hse)) <| gz2 (.bool false) (.string s) <|
      gzb (neq_st rfl s ⟨#[]⟩ (decide_eq_false (not_not_intro hs0))) <| gz6 (.bool false) undef undef undef (.bool false) (.bool false) <| gz1 (.bool false) <| wn ?_
     simp only [pu]
     go_wp2_with fail
     go_ret
     exact ⟨rfl, HBE.out⟩
    ·skip
     have hs0 : ¬ s = ⟨#[]⟩ := fun h => hn0 (HEM.out.1 h)
     have hat := HSA.out 0 (by omega)
     have HY2 : Hid (L.getD 0 0 ≠ 48 → true = z) := Lib.hid fun h => HYE.out HI.out (by omega) h
     have HN2 : Hid (L.getD 0 0 = 48 → false = z) := Lib.hid fun h => HLD.out hz0 (by omega) h
     clear hn0 hz0 HZE HE0 HLD HYE HI HSA
     generalize L.getD 0 0 = c at *
     by_cases hc : c = 48
     ·skip
      obtain rfl := HN2.out hc
      clear HN2 HY2
      refine wl <| gz1 (.string s) <| gzw (.bool false) (eql_s rfl s ⟨#[48]⟩ (by rw [beqB]; exact decide_eq_false hse)) <| gz2 (.bool false) (.string s) <| gzb (neq_st rfl s ⟨#[]⟩ (decide_eq_true hs0)) <|
       gz2 (.bool true) (.string s) <| gzv (.int .u8 c) (hat _ _ _ _ rfl (by kernel_rfl) (by kernel_rfl) _) <| gzb (neq_8 rfl c 48 (decide_eq_false (not_not_intro hc))) <| gz3 (.bool false) (.bool false) (.bool false) <| wn ?_
      simp only [pu]
      go_wp2_with fail
      go_ret
      exact ⟨rfl, HBE.out⟩
     ·skip
      obtain rfl := HY2.out hc
      clear HN2 HY2
      refine wl <| gz1 (.string s) <| gzw (.bool false) (eql_s rfl s ⟨#[48]⟩ (by rw [beqB]; exact decide_eq_false hse)) <| gz2 (.bool false) (.string s) <| gzb (neq_st rfl s ⟨#[]⟩ (decide_eq_true hs0)) <|
       gz2 (.bool true) (.string s) <| gzv (.int .u8 c) (hat _ _ _ _ rfl (by kernel_rfl) (by kernel_rfl) _) <| gzb (neq_8 rfl c 48 (decide_eq_true hc)) <| gz3 (.bool true) (.bool true) (.bool true) <| wn ?_
      simp only [pu]
      go_wp2_with fail
      go_ret
      exact ⟨rfl, HBE.out⟩
end Go.Proofs.YtplfineaomneiaaDoor
