/-
  strings.Compare, slices.BinarySearchFunc, the program's place; the reference's Find: contracts.
-/
import Derived.Test.YtebnlklodokhkaaDoorLM
namespace Go.Proofs.YtebnlklodokhkaaDoor.Lg
open Go.RowKit
set_option linter.unusedSimpArgs false
set_option linter.unusedVariables false

theorem new_ac (V : World) (x : Ac) : ∃ V2, (Instr.storeAt 37 (.pointer (some ⟨V.heap.size, 0, none⟩)) (.agg (acA x))).run Tryd.prog (V.alloc (.cells (acA zAc) 37)) = .ok () V2 ∧ Below V.heap.size V V2 ∧ Bx V2 V.heap.size (acA x) 37 :=
  have hb : Bx (V.alloc (.cells (acA zAc) 37)) V.heap.size (acA zAc) 37 := heap_alloc_last V _
  ⟨_, (store_ac hb).1, belowRow ((Below.refl _ V).alloc (Nat.le_refl _) _) (Nat.le_refl _) _, (store_ac hb).2⟩
/-- A ledger in a block of its own. -/
abbrev lgA (a : Option Addr) (n k : Nat) (c : Int) : Array Value := #[.slice a n k, .int .u64 c]
theorem store_lg {w : World} {g : Nat} {a a' : Option Addr} {n n' k k' : Nat} {c c' : Int} (h : Bx w g (lgA a n k c) 25) : (Instr.storeAt 25 (.pointer (some ⟨g, 0, none⟩)) (.agg (lgA a' n' k' c'))).run Tryd.prog w = .ok () (w.setRow g (lgA a' n' k' c')) ∧ Bx (w.setRow g (lgA a' n' k' c')) g (lgA a' n' k' c') 25 :=
  ⟨run_store_all h rfl (by simp [Value.oneCell']) (by kernel_rfl), h.set⟩
theorem new_lg (V : World) (a : Option Addr) (n k : Nat) (c : Int) : ∃ V2, (Instr.storeAt 25 (.pointer (some ⟨V.heap.size, 0, none⟩)) (.agg (lgA a n k c))).run Tryd.prog (V.alloc (.cells (lgA none 0 0 0) 25)) = .ok () V2 ∧ Below V.heap.size V V2 ∧ Bx V2 V.heap.size (lgA a n k c) 25 :=
  have hb : Bx (V.alloc (.cells (lgA none 0 0 0) 25)) V.heap.size (lgA none 0 0 0) 25 := heap_alloc_last V _
  ⟨_, (store_lg hb).1, belowRow ((Below.refl _ V).alloc (Nat.le_refl _) _) (Nat.le_refl _) _, (store_lg hb).2⟩
theorem load_lg {w : World} {g : Nat} {a : Option Addr} {n k : Nat} {c : Int} (h : Bx w g (lgA a n k c) 25) : (Instr.loadAt 25 (.pointer (some ⟨g, 0, none⟩))).run Tryd.prog w = .ok (.agg (lgA a n k c)) w :=
  run_loadAt_mid w g 0 25 [.slice a n k, .int .u64 c] _ (fun j v hv => by
    rw [cell_of_row w g _ _ _ (0, 0) h]
    simpa using hv) Tryd.underlying25 rfl (by kernel_rfl)
theorem cb_lt : ∀ (x y : List UInt8), (Lib.compareBytes x y < 0 ↔ x < y) ∧ (Lib.compareBytes x y = 0 ↔ x = y)
  | [], [] => by simp [Lib.compareBytes]
  | [], _ :: _ => by simp [Lib.compareBytes]
  | _ :: _, [] => by simp [Lib.compareBytes]
  | a :: x, b :: y => by
    obtain ⟨h1, h2⟩ := cb_lt x y
    unfold Lib.compareBytes
    by_cases e1 : a < b
    · rw [if_pos e1]
      have : a ≠ b := fun e => by subst e; exact absurd e1 (UInt8.lt_irrefl _)
      simp [List.cons_lt_cons_iff, e1, this]
    rw [if_neg e1]
    by_cases e2 : b < a
    · rw [if_pos e2]
      have h3 : a ≠ b := fun e => by subst e; exact absurd e2 (UInt8.lt_irrefl _)
      simp [List.cons_lt_cons_iff, e1, h3]
    · rw [if_neg e2]
      have h3 : a = b := UInt8.le_antisymm (UInt8.not_lt.1 e2) (UInt8.not_lt.1 e1)
      subst h3
      simp [List.cons_lt_cons_iff, e1, h1, h2]
/-- The comparison of two strings. -/
def cmpS (a b : ByteArray) : Int := Lib.compareBytes a.data.toList b.data.toList
theorem cmpS_lt (a b : ByteArray) : decide (cmpS a b < 0) = ltS a b := decide_eq_decide.2 (cb_lt _ _).1
theorem cmpS_eq (a b : ByteArray) : decide (cmpS a b = 0) = decide (a = b) := decide_eq_decide.2 ((cb_lt _ _).2.trans ⟨fun h => ByteArray.ext (Array.toList_inj.1 h), fun h => by rw [h]⟩)
set_option maxRecDepth 100000 in
set_option maxHeartbeats 8000000 in
theorem q_cmpb (a b : ByteArray) (w : World) : Calls Tryd.prog 66 #[.string a, .string b] w fun e w' => e = .returned (.int .i64 (cmpS a b)) ∧ w = w' := by
  go_enter Tryd.func66, Tryd.ntmps66
  go_wp2
  rw [run_callFunc_extern Tryd.func76 (by kernel_rfl) (by kernel_rfl) (by kernel_rfl) (e := Extern.BytealgCompare.compare) (by kernel_rfl), Lib.run_compareString]
  simp only [Result.andThen]
  rw [Oper.upon_value]
  go_wp2
  go_ret
  exact ⟨rfl, rfl⟩
set_option maxRecDepth 100000 in
set_option maxHeartbeats 8000000 in
theorem q_cmp (a b : ByteArray) (w : World) : Calls Tryd.prog 50 #[.string a, .string b] w fun e w' => e = .returned (.int .i64 (cmpS a b)) ∧ w = w' := by
  have CB := q_cmpb a b w
  generalize cmpS a b = q at *
  go_enter Tryd.func50, Tryd.ntmps50
  go_upto_region 1 with fail
  apply wp_region_lit
  refine gw_val (by kernel_rfl) (some 5) rfl (.string a) (by kernel_rfl) ?_
  simp only [pu1, pu2, pu3, pu4]
  refine gw_val (by kernel_rfl) (some 6) rfl (.string b) (by kernel_rfl) ?_
  simp only [pu1, pu2, pu3, pu4]
  refine gw_call (by kernel_rfl) (some 7) rfl 66 #[.string a, .string b] (.int .i64 q) (fun w' => w = w') (by kernel_rfl) (CB) (fun V9 hV9 => ?_)
  subst hV9
  simp only [pu1, pu2, pu3, pu4]
  refine gw_val (by kernel_rfl) (some 4) rfl (.int .i64 q) (by kernel_rfl) ?_
  simp only [pu1, pu2, pu3, pu4]
  apply wpList_nil
  clear CB
  go_wp2_with fail
  go_ret
  exact ⟨rfl, rfl⟩
set_option maxRecDepth 100000 in
set_option maxHeartbeats 8000000 in
theorem q_place1 (x : Ac) (s : ByteArray) (w : World) : Calls Tryd.prog 49 #[.agg (acA x), .string s] w fun e w' => e = .returned (.int .i64 (cmpS x.1 s)) ∧ Below w.heap.size w w' := by
  have hb0 : Below w.heap.size w (w.alloc (.cells (acA x) 37)) := (Below.refl _ w).alloc (Nat.le_refl _) _
  have hX : Bx (w.alloc (.cells (acA x) 37)) w.heap.size (acA x) 37 := heap_alloc_last w _
  have CB := q_cmp x.1 s (w.alloc (.cells (acA x) 37))
  obtain ⟨q, hq⟩ : ∃ q, cmpS x.1 s = q := ⟨_, rfl⟩
  rw [hq] at CB ⊢
  clear hq
  go_enter Tryd.func49, Tryd.ntmps49
  go_upto_region 1 with fail
  change Code.wp _ _ _ _ (w.alloc (.cells (acA x) 37))
  generalize w.alloc (.cells (acA x) 37) = W at *
  have HB := Lib.hid hb0
  clear hb0
  apply wp_region_lit
  refine gw_val (by kernel_rfl) (some 5) rfl (.pointer (some ⟨w.heap.size, 0, none⟩)) (by kernel_rfl) ?_
  simp only [pu1, pu2, pu3, pu4]
  refine gw_load (by kernel_rfl) (some 6) rfl 9 (.tmp 5) rfl ⟨w.heap.size, 0, none⟩ (.string x.1) (by kernel_rfl) (hX.load (i := 0) rfl (by kernel_rfl)) ?_
  simp only [pu1, pu2, pu3, pu4]
  refine gw_val (by kernel_rfl) (some 7) rfl (.string s) (by kernel_rfl) ?_
  simp only [pu1, pu2, pu3, pu4]
  refine gw_call (by kernel_rfl) (some 8) rfl 50 #[.string x.1, .string s] (.int .i64 q) (fun w' => W = w') (by kernel_rfl) (CB) (fun V9 hV9 => ?_)
  subst hV9
  simp only [pu1, pu2, pu3, pu4]
  refine gw_val (by kernel_rfl) (some 4) rfl (.int .i64 q) (by kernel_rfl) ?_
  simp only [pu1, pu2, pu3, pu4]
  apply wpList_nil
  clear CB hX
  go_wp2_with fail
  go_ret
  exact ⟨rfl, HB.out⟩
theorem conv_iu {ρ : Operand → Value} {o : Oper} {x : Operand} (ho : o.op = .convert 3 93 x) (a : Nat) (h : a ≤ 9223372036854775807) (hx : ρ x = .int .i64 a) (w : World) : (execOp ρ o).run Tryd.prog w = .ok (.value (.int .u64 a)) w := by
  have e : IntKind.u64.wrap (a : Int) = a := by rw [IntKind.wrap_u64]; omega
  unfold execOp
  simp only [ho, hx]
  go_simp
theorem conv_ui {ρ : Operand → Value} {o : Oper} {x : Operand} (ho : o.op = .convert 93 3 x) (a : Nat) (h : a ≤ 9223372036854775807) (hx : ρ x = .int .u64 a) (w : World) : (execOp ρ o).run Tryd.prog w = .ok (.value (.int .i64 a)) w := by
  have e : IntKind.i64.wrap (a : Int) = a := by rw [IntKind.wrap_i64]; omega
  unfold execOp
  simp only [ho, hx]
  go_simp
theorem half_u {ρ : Operand → Value} {o : Oper} {x y : Operand} (ho : o.op = .binOp .shr 93 x y 93) (a : Nat) (h : a ≤ 9223372036854775807) (hx : ρ x = .int .u64 a) (hy : ρ y = .int .u64 1) (w : World) : (execOp ρ o).run Tryd.prog w = .ok (.value (.int .u64 (a / 2 : Nat))) w := by
  unfold execOp
  simp only [ho, hx, hy]
  go_simp
set_option maxRecDepth 100000 in
set_option maxHeartbeats 8000000 in
theorem q_bs (a : Option Addr) (k : Nat) (A : List Ac) (s : ByteArray) (w : World) (hR : Cs w a (acc A)) (hs : Srt A) (hn : A.length ≤ 1000000) :
    Calls Tryd.prog 48 #[.slice a A.length k, .string s, .func (.func 49) #[] #[]] w fun e w' => e = .returned (.tuple #[.int .i64 (lesL A s), .bool (decide (fndL A s < A.length))]) ∧ Below w.heap.size w w' := by
  have HA := Lib.hid hR
  have HLT := Lib.hid (fun i => cmpS_lt (aca A i).1 s)
  have HEQ := Lib.hid (fun i => cmpS_eq (aca A i).1 s)
  have HS := Lib.hid hs
  obtain ⟨n, hnn⟩ : ∃ n, A.length = n := ⟨_, rfl⟩
  have HN := Lib.hid hnn
  have HNL : Hid (n ≤ 1000000) := Lib.hid (by omega)
  obtain ⟨lL, hlL⟩ : ∃ l, lesL A s = l := ⟨_, rfl⟩
  obtain ⟨fF, hfF⟩ : ∃ f, decide (fndL A s < n) = f := ⟨_, rfl⟩
  have HRS : Hid (∀ i, i ≤ n → (∀ t, t < i → ltS (aca A t).1 s = true) → (∀ t, i ≤ t → t < n → ltS (aca A t).1 s = false) → i = lL ∧ fF = decide (i < n ∧ (aca A i).1 = s)) := Lib.hid fun i h1 h2 h3 => by
    have e := les_is (A := A) (s := s) (i := i) (by omega) h2 (fun h => h3 i (Nat.le_refl _) (by omega))
    refine ⟨by rw [← hlL, e], ?_⟩
    rw [← hfF, ← hnn, srt_les hs, e]
  rw [hnn, hlL, hfF]
  clear hlL hfF hR hs hn hnn
  go_enter Tryd.func48, Tryd.ntmps48
  go_upto_region 1 with fail
  apply wp_region_lit
  refine gw_val (by kernel_rfl) (some 12) rfl (.slice a n k) (by kernel_rfl) ?_
  simp only [pu1, pu2, pu3, pu4]
  refine gw_val (by kernel_rfl) (some 13) rfl (.int .i64 n) (by kernel_rfl) ?_
  simp only [pu1, pu2, pu3, pu4]
  refine gw_val (by kernel_rfl) (some 8) rfl (.int .i64 n) (by kernel_rfl) ?_
  simp only [pu1, pu2, pu3, pu4]
  apply wpList_nil
  go_upto_region 2 with fail
  apply wp_region_lit
  refine gw_val (by kernel_rfl) (some 14) rfl (.int .i64 n) (by kernel_rfl) ?_
  simp only [pu1, pu2, pu3, pu4]
  refine gw_val (by kernel_rfl) (some 9) rfl (.int .i64 0) (by kernel_rfl) ?_
  simp only [pu1, pu2, pu3, pu4]
  refine gw_val (by kernel_rfl) (some 10) rfl (.int .i64 n) (by kernel_rfl) ?_
  simp only [pu1, pu2, pu3, pu4]
  apply wpList_nil
  go_wp2_with fail
  go_loopg [9, 10] n (fun gg s9 s10 wx => ∃ i j : Nat, s9 = .int .i64 i ∧ s10 = .int .i64 j ∧ i ≤ j ∧ j ≤ n ∧ Hid ((∀ t, t < i → ltS (aca A t).1 s = true) ∧ (∀ t, j ≤ t → t < n → ltS (aca A t).1 s = false)) ∧ Hid (Below w.heap.size w wx) ∧ j - i = gg)
  case atStart => exact ⟨0, n, rfl, rfl, by omega, by omega, Lib.hid ⟨fun t h => by omega, fun t h h2 => by omega⟩, Lib.hid (Below.refl _ _), by omega⟩
  case round =>
    obtain ⟨i, j, rfl, rfl, hij, hjn, HO, HB, hg⟩ := hrel
    have hn9 := HNL.out
    by_cases hlt : i < j
    · skip
      go_upto_region 3 with fail
      apply wp_region_lit
      refine gw_val (by kernel_rfl) (some 15) rfl (.int .i64 i) (by kernel_rfl) ?_
      simp only [pu1, pu2, pu3, pu4]
      refine gw_val (by kernel_rfl) (some 16) rfl (.int .i64 j) (by kernel_rfl) ?_
      simp only [pu1, pu2, pu3, pu4]
      refine gw_val (by kernel_rfl) (some 17) rfl (.bool true) (lss_n rfl (i) (j) (decide_eq_true (by omega)) (by kernel_rfl) (by kernel_rfl) _) ?_
      simp only [pu1, pu2, pu3, pu4]
      apply wpList_nil
      go_upto_region 4 with fail
      apply wp_region_lit
      refine gw_val (by kernel_rfl) (some 18) rfl (.int .i64 i) (by kernel_rfl) ?_
      simp only [pu1, pu2, pu3, pu4]
      refine gw_val (by kernel_rfl) (some 19) rfl (.int .i64 j) (by kernel_rfl) ?_
      simp only [pu1, pu2, pu3, pu4]
      refine gw_val (by kernel_rfl) (some 20) rfl (.int .i64 (i + j : Nat)) (add_nat rfl i j (by omega) (by kernel_rfl) (by kernel_rfl) _) ?_
      simp only [pu1, pu2, pu3, pu4]
      refine gw_val (by kernel_rfl) (some 21) rfl (.int .u64 (i + j : Nat)) (conv_iu rfl (i + j) (by omega) (by kernel_rfl) _) ?_
      simp only [pu1, pu2, pu3, pu4]
      refine gw_val (by kernel_rfl) (some 22) rfl (.int .u64 ((i + j) / 2 : Nat)) (half_u rfl (i + j) (by omega) (by kernel_rfl) (by kernel_rfl) _) ?_
      simp only [pu1, pu2, pu3, pu4]
      refine gw_val (by kernel_rfl) (some 23) rfl (.int .i64 ((i + j) / 2 : Nat)) (conv_ui rfl ((i + j) / 2) (by omega) (by kernel_rfl) _) ?_
      simp only [pu1, pu2, pu3, pu4]
      refine gw_val (by kernel_rfl) (some 11) rfl (.int .i64 ((i + j) / 2 : Nat)) (by kernel_rfl) ?_
      simp only [pu1, pu2, pu3, pu4]
      apply wpList_nil
      obtain ⟨h, hh⟩ : ∃ h, (i + j) / 2 = h := ⟨_, rfl⟩
      have HH : Hid (i ≤ h ∧ h < j) := Lib.hid (by omega)
      have hhn : h < n := by have := HH.out; omega
      rw [hh]
      clear hh
      obtain ⟨b, off, rfl, -, hrx⟩ := ac_range (HA.out.below HB.out) (k := h) (by rw [HN.out]; exact hhn)
      have HLD := Lib.hid (load_ac hrx)
      have hl1 := HLT.out h
      generalize hy : aca A h = y at *
      have CP := q_place1 y s wr
      obtain ⟨q, hq⟩ : ∃ q, cmpS y.1 s = q := ⟨_, rfl⟩
      rw [hq] at CP hl1
      have HY := Lib.hid hy
      have HG := Lib.hid hg
      clear hrx hq hy hg
      go_upto_region 5 with fail
      by_cases hqq : q < 0
      · skip
        rw [decide_eq_true hqq] at hl1
        apply wp_region_lit
        refine gw_val (by kernel_rfl) (some 24) rfl (.func (.func 49) #[] #[]) (by kernel_rfl) ?_
        simp only [pu1, pu2, pu3, pu4]
        refine gw_val (by kernel_rfl) (some 25) rfl (.slice (some ⟨b, off, none⟩) n k) (by kernel_rfl) ?_
        simp only [pu1, pu2, pu3, pu4]
        refine gw_val (by kernel_rfl) (some 26) rfl (.int .i64 h) (by kernel_rfl) ?_
        simp only [pu1, pu2, pu3, pu4]
        refine gw_val (by kernel_rfl) (some 27) rfl (.pointer (some ⟨b, off + h * 3, none⟩)) (idx_ac b off n k h hhn _ _ _ rfl (by kernel_rfl) (by kernel_rfl)) ?_
        simp only [pu1, pu2, pu3, pu4]
        refine gw_load (by kernel_rfl) (some 28) rfl 37 (.tmp 27) rfl ⟨b, off + h * 3, none⟩ (.agg (acA y)) (by kernel_rfl) (HLD.out) ?_
        simp only [pu1, pu2, pu3, pu4]
        refine gw_val (by kernel_rfl) (some 29) rfl (.string s) (by kernel_rfl) ?_
        simp only [pu1, pu2, pu3, pu4]
        refine gw_call (by kernel_rfl) (some 30) rfl 49 #[.agg (acA y), .string s] (.int .i64 q) (fun w' => Below wr.heap.size wr w') (by kernel_rfl) (CP) (fun V9 hV9 => ?_)
        have HB9 := Lib.hid (HB.out.trans (hV9.mono HB.out.size))
        simp only [pu1, pu2, pu3, pu4]
        refine gw_val (by kernel_rfl) (some 31) rfl (.bool true) (lss_n rfl (q) (0) (decide_eq_true (hqq)) (by kernel_rfl) (by kernel_rfl) _) ?_
        simp only [pu1, pu2, pu3, pu4]
        apply wpList_nil
        clear hV9 HB HLD CP hqq
        have HO9 : Hid ((∀ t, t < h + 1 → ltS (aca A t).1 s = true) ∧ (∀ t, j ≤ t → t < n → ltS (aca A t).1 s = false)) := Lib.hid ⟨fun t ht => (by rcases Nat.lt_or_ge t h with h7 | h7; exact ltS_tr (HS.out t h h7 (by rw [HN.out]; exact hhn)) (by rw [HY.out]; exact hl1.symm); have e7 : t = h := (by omega); rw [e7, HY.out]; exact hl1.symm), HO.out.2⟩
        go_upto_region 6 with fail
        apply wp_region_lit
        refine gw_val (by kernel_rfl) (some 32) rfl (.int .i64 h) (by kernel_rfl) ?_
        simp only [pu1, pu2, pu3, pu4]
        refine gw_val (by kernel_rfl) (some 33) rfl (.int .i64 (h + 1 : Nat)) (add_nat rfl h 1 (by omega) (by kernel_rfl) (by kernel_rfl) _) ?_
        simp only [pu1, pu2, pu3, pu4]
        refine gw_val (by kernel_rfl) (some 9) rfl (.int .i64 (h + 1 : Nat)) (by kernel_rfl) ?_
        simp only [pu1, pu2, pu3, pu4]
        apply wpList_nil
        clear HO hl1
        go_wp2_with fail
        go_roundg (j - (h + 1))
        case measure => have := HG.out; have := HH.out; omega
        case rel => exact ⟨h + 1, j, rfl, rfl, by have := HH.out; omega, hjn, HO9, HB9, rfl⟩
      · skip
        rw [decide_eq_false hqq] at hl1
        apply wp_region_lit
        refine gw_val (by kernel_rfl) (some 24) rfl (.func (.func 49) #[] #[]) (by kernel_rfl) ?_
        simp only [pu1, pu2, pu3, pu4]
        refine gw_val (by kernel_rfl) (some 25) rfl (.slice (some ⟨b, off, none⟩) n k) (by kernel_rfl) ?_
        simp only [pu1, pu2, pu3, pu4]
        refine gw_val (by kernel_rfl) (some 26) rfl (.int .i64 h) (by kernel_rfl) ?_
        simp only [pu1, pu2, pu3, pu4]
        refine gw_val (by kernel_rfl) (some 27) rfl (.pointer (some ⟨b, off + h * 3, none⟩)) (idx_ac b off n k h hhn _ _ _ rfl (by kernel_rfl) (by kernel_rfl)) ?_
        simp only [pu1, pu2, pu3, pu4]
        refine gw_load (by kernel_rfl) (some 28) rfl 37 (.tmp 27) rfl ⟨b, off + h * 3, none⟩ (.agg (acA y)) (by kernel_rfl) (HLD.out) ?_
        simp only [pu1, pu2, pu3, pu4]
        refine gw_val (by kernel_rfl) (some 29) rfl (.string s) (by kernel_rfl) ?_
        simp only [pu1, pu2, pu3, pu4]
        refine gw_call (by kernel_rfl) (some 30) rfl 49 #[.agg (acA y), .string s] (.int .i64 q) (fun w' => Below wr.heap.size wr w') (by kernel_rfl) (CP) (fun V9 hV9 => ?_)
        have HB9 := Lib.hid (HB.out.trans (hV9.mono HB.out.size))
        simp only [pu1, pu2, pu3, pu4]
        refine gw_val (by kernel_rfl) (some 31) rfl (.bool false) (lss_n rfl (q) (0) (decide_eq_false (hqq)) (by kernel_rfl) (by kernel_rfl) _) ?_
        simp only [pu1, pu2, pu3, pu4]
        apply wpList_nil
        clear hV9 HB HLD CP hqq
        have HO9 : Hid ((∀ t, t < i → ltS (aca A t).1 s = true) ∧ (∀ t, h ≤ t → t < n → ltS (aca A t).1 s = false)) := Lib.hid ⟨HO.out.1, fun t ht htn => (by have h0 : ltS (aca A h).1 s = false := (by rw [HY.out]; exact hl1.symm); rcases Nat.lt_or_ge h t with h7 | h7; have h8 := HS.out h t h7 (by rw [HN.out]; exact htn); by_cases h9 : ltS (aca A t).1 s = true; rw [ltS_tr h8 h9] at h0; cases h0; simpa using h9; have e7 : t = h := (by omega); rw [e7]; exact h0)⟩
        go_upto_region 7 with fail
        apply wp_region_lit
        refine gw_val (by kernel_rfl) (some 34) rfl (.int .i64 h) (by kernel_rfl) ?_
        simp only [pu1, pu2, pu3, pu4]
        refine gw_val (by kernel_rfl) (some 10) rfl (.int .i64 h) (by kernel_rfl) ?_
        simp only [pu1, pu2, pu3, pu4]
        apply wpList_nil
        clear HO hl1
        go_wp2_with fail
        go_roundg (h - i)
        case measure => have := HG.out; have := HH.out; omega
        case rel => exact ⟨i, h, rfl, rfl, by have := HH.out; omega, by have := HH.out; omega, HO9, HB9, rfl⟩
    · skip
      obtain rfl : i = j := by omega
      obtain ⟨hil, hff⟩ := HRS.out i hjn HO.out.1 HO.out.2
      subst hil
      clear HO HRS hg hij
      by_cases hin : i < n
      · skip
        obtain ⟨b, off, rfl, -, hrx⟩ := ac_range (HA.out.below HB.out) (k := i) (by rw [HN.out]; exact hin)
        have HLD := Lib.hid (load_ac hrx)
        have hl1 := HEQ.out i
        have hff2 : fF = decide ((aca A i).1 = s) := by rw [hff, decide_eq_decide]; exact ⟨fun h => h.2, fun h => ⟨hin, h⟩⟩
        clear hff
        generalize aca A i = y at *
        rw [← hl1] at hff2
        have CP := q_place1 y s wr
        obtain ⟨q, hq⟩ : ∃ q, cmpS y.1 s = q := ⟨_, rfl⟩
        rw [hq] at CP hff2
        have HFF := Lib.hid hff2.symm
        clear hrx hq hl1 hff2
        go_upto_region 3 with fail
        apply wp_region_lit
        refine gw_val (by kernel_rfl) (some 15) rfl (.int .i64 i) (by kernel_rfl) ?_
        simp only [pu1, pu2, pu3, pu4]
        refine gw_val (by kernel_rfl) (some 16) rfl (.int .i64 i) (by kernel_rfl) ?_
        simp only [pu1, pu2, pu3, pu4]
        refine gw_val (by kernel_rfl) (some 17) rfl (.bool false) (lss_n rfl (i) (i) (decide_eq_false (by omega)) (by kernel_rfl) (by kernel_rfl) _) ?_
        simp only [pu1, pu2, pu3, pu4]
        apply wpList_nil
        go_upto_region 8 with fail
        apply wp_region_lit
        refine gw_val (by kernel_rfl) (some 35) rfl (.int .i64 i) (by kernel_rfl) ?_
        simp only [pu1, pu2, pu3, pu4]
        refine gw_val (by kernel_rfl) (some 36) rfl (.int .i64 i) (by kernel_rfl) ?_
        simp only [pu1, pu2, pu3, pu4]
        refine gw_val (by kernel_rfl) (some 37) rfl (.int .i64 n) (by kernel_rfl) ?_
        simp only [pu1, pu2, pu3, pu4]
        refine gw_val (by kernel_rfl) (some 38) rfl (.bool true) (lss_n rfl (i) (n) (decide_eq_true (by omega)) (by kernel_rfl) (by kernel_rfl) _) ?_
        simp only [pu1, pu2, pu3, pu4]
        refine gw_val (by kernel_rfl) (some 39) rfl (.bool true) (by kernel_rfl) ?_
        simp only [pu1, pu2, pu3, pu4]
        refine gw_val (by kernel_rfl) (some 40) rfl (.func (.func 49) #[] #[]) (by kernel_rfl) ?_
        simp only [pu1, pu2, pu3, pu4]
        refine gw_val (by kernel_rfl) (some 41) rfl (.slice (some ⟨b, off, none⟩) n k) (by kernel_rfl) ?_
        simp only [pu1, pu2, pu3, pu4]
        refine gw_val (by kernel_rfl) (some 42) rfl (.int .i64 i) (by kernel_rfl) ?_
        simp only [pu1, pu2, pu3, pu4]
        refine gw_val (by kernel_rfl) (some 43) rfl (.pointer (some ⟨b, off + i * 3, none⟩)) (idx_ac b off n k i hin _ _ _ rfl (by kernel_rfl) (by kernel_rfl)) ?_
        simp only [pu1, pu2, pu3, pu4]
        refine gw_load (by kernel_rfl) (some 44) rfl 37 (.tmp 43) rfl ⟨b, off + i * 3, none⟩ (.agg (acA y)) (by kernel_rfl) (HLD.out) ?_
        simp only [pu1, pu2, pu3, pu4]
        refine gw_val (by kernel_rfl) (some 45) rfl (.string s) (by kernel_rfl) ?_
        simp only [pu1, pu2, pu3, pu4]
        refine gw_call (by kernel_rfl) (some 46) rfl 49 #[.agg (acA y), .string s] (.int .i64 q) (fun w' => Below wr.heap.size wr w') (by kernel_rfl) (CP) (fun V9 hV9 => ?_)
        have HB9 := Lib.hid (HB.out.trans (hV9.mono HB.out.size))
        simp only [pu1, pu2, pu3, pu4]
        refine gw_val (by kernel_rfl) (some 47) rfl (.bool fF) (eql_n rfl q 0 HFF.out (by kernel_rfl) (by kernel_rfl) _) ?_
        simp only [pu1, pu2, pu3, pu4]
        refine gw_val (by kernel_rfl) (some 48) rfl (.bool fF) (by kernel_rfl) ?_
        simp only [pu1, pu2, pu3, pu4]
        refine gw_val (by kernel_rfl) (some 6) rfl (.int .i64 i) (by kernel_rfl) ?_
        simp only [pu1, pu2, pu3, pu4]
        refine gw_val (by kernel_rfl) (some 7) rfl (.bool fF) (by kernel_rfl) ?_
        simp only [pu1, pu2, pu3, pu4]
        apply wpList_nil
        clear hV9 HB HLD CP HFF
        go_wp2_with fail
        go_ret2
        exact ⟨rfl, HB9.out⟩
      · skip
        rw [decide_eq_false (fun h => hin h.1)] at hff
        subst hff
        go_upto_region 3 with fail
        apply wp_region_lit
        refine gw_val (by kernel_rfl) (some 15) rfl (.int .i64 i) (by kernel_rfl) ?_
        simp only [pu1, pu2, pu3, pu4]
        refine gw_val (by kernel_rfl) (some 16) rfl (.int .i64 i) (by kernel_rfl) ?_
        simp only [pu1, pu2, pu3, pu4]
        refine gw_val (by kernel_rfl) (some 17) rfl (.bool false) (lss_n rfl (i) (i) (decide_eq_false (by omega)) (by kernel_rfl) (by kernel_rfl) _) ?_
        simp only [pu1, pu2, pu3, pu4]
        apply wpList_nil
        go_upto_region 8 with fail
        apply wp_region_lit
        refine gw_val (by kernel_rfl) (some 35) rfl (.int .i64 i) (by kernel_rfl) ?_
        simp only [pu1, pu2, pu3, pu4]
        refine gw_val (by kernel_rfl) (some 36) rfl (.int .i64 i) (by kernel_rfl) ?_
        simp only [pu1, pu2, pu3, pu4]
        refine gw_val (by kernel_rfl) (some 37) rfl (.int .i64 n) (by kernel_rfl) ?_
        simp only [pu1, pu2, pu3, pu4]
        refine gw_val (by kernel_rfl) (some 38) rfl (.bool false) (lss_n rfl (i) (n) (decide_eq_false (by omega)) (by kernel_rfl) (by kernel_rfl) _) ?_
        simp only [pu1, pu2, pu3, pu4]
        refine gw_val (by kernel_rfl) (some 39) rfl (.bool false) (by kernel_rfl) ?_
        simp only [pu1, pu2, pu3, pu4]
        with_reducible refine gw_not (by kernel_rfl) (some 40) rfl ?_
        simp only [pu1, pu2, pu3, pu4]
        with_reducible refine gw_not (by kernel_rfl) (some 41) rfl ?_
        simp only [pu1, pu2, pu3, pu4]
        with_reducible refine gw_not (by kernel_rfl) (some 42) rfl ?_
        simp only [pu1, pu2, pu3, pu4]
        with_reducible refine gw_not (by kernel_rfl) (some 43) rfl ?_
        simp only [pu1, pu2, pu3, pu4]
        with_reducible refine gw_not (by kernel_rfl) (some 44) rfl ?_
        simp only [pu1, pu2, pu3, pu4]
        with_reducible refine gw_not (by kernel_rfl) (some 45) rfl ?_
        simp only [pu1, pu2, pu3, pu4]
        with_reducible refine gw_not (by kernel_rfl) (some 46) rfl ?_
        simp only [pu1, pu2, pu3, pu4]
        with_reducible refine gw_not (by kernel_rfl) (some 47) rfl ?_
        simp only [pu1, pu2, pu3, pu4]
        refine gw_val (by kernel_rfl) (some 48) rfl (.bool false) (by kernel_rfl) ?_
        simp only [pu1, pu2, pu3, pu4]
        refine gw_val (by kernel_rfl) (some 6) rfl (.int .i64 i) (by kernel_rfl) ?_
        simp only [pu1, pu2, pu3, pu4]
        refine gw_val (by kernel_rfl) (some 7) rfl (.bool false) (by kernel_rfl) ?_
        simp only [pu1, pu2, pu3, pu4]
        apply wpList_nil
        go_wp2_with fail
        go_ret2
        exact ⟨rfl, HB.out⟩
set_option maxRecDepth 100000 in
set_option maxHeartbeats 8000000 in
theorem q_place (a : Option Addr) (k : Nat) (A : List Ac) (s : ByteArray) (w : World) (hR : Cs w a (acc A)) (hs : Srt A) (hn : A.length ≤ 1000000) :
    Calls Tryd.prog 26 #[.slice a A.length k, .string s] w fun e w' => e = .returned (.tuple #[.int .i64 (lesL A s), .bool (decide (fndL A s < A.length))]) ∧ Below w.heap.size w w' := by
  have CB := q_bs a k A s w hR hs hn
  obtain ⟨lL, hlL⟩ : ∃ l, lesL A s = l := ⟨_, rfl⟩
  obtain ⟨fF, hfF⟩ : ∃ f, decide (fndL A s < A.length) = f := ⟨_, rfl⟩
  rw [hlL, hfF] at CB ⊢
  generalize A.length = n at *
  clear hlL hfF hR hs hn
  go_enter Tryd.func26, Tryd.ntmps26
  go_upto_region 1 with fail
  apply wp_region_lit
  refine gw_val (by kernel_rfl) (some 6) rfl (.slice a n k) (by kernel_rfl) ?_
  simp only [pu1, pu2, pu3, pu4]
  refine gw_val (by kernel_rfl) (some 7) rfl (.string s) (by kernel_rfl) ?_
  simp only [pu1, pu2, pu3, pu4]
  refine gw_call (by kernel_rfl) (some 8) rfl 48 #[.slice a n k, .string s, .func (.func 49) #[] #[]] (.tuple #[.int .i64 lL, .bool fF]) (fun w' => Below w.heap.size w w') (by kernel_rfl) (CB) (fun V9 hV9 => ?_)
  have HB9 := Lib.hid hV9
  simp only [pu1, pu2, pu3, pu4]
  refine gw_val (by kernel_rfl) (some 9) rfl (.int .i64 lL) (by kernel_rfl) ?_
  simp only [pu1, pu2, pu3, pu4]
  refine gw_val (by kernel_rfl) (some 10) rfl (.bool fF) (by kernel_rfl) ?_
  simp only [pu1, pu2, pu3, pu4]
  refine gw_val (by kernel_rfl) (some 4) rfl (.int .i64 lL) (by kernel_rfl) ?_
  simp only [pu1, pu2, pu3, pu4]
  refine gw_val (by kernel_rfl) (some 5) rfl (.bool fF) (by kernel_rfl) ?_
  simp only [pu1, pu2, pu3, pu4]
  apply wpList_nil
  clear hV9 CB
  go_wp2_with fail
  go_ret2
  exact ⟨rfl, HB9.out⟩
def fndI (A : List Ac) (s : ByteArray) : Int := if fndL A s < A.length then fndL A s else -1
set_option maxRecDepth 100000 in
set_option maxHeartbeats 8000000 in
theorem ref_find (a : Option Addr) (k : Nat) (A : List Ac) (s : ByteArray) (w : World) (hR : Cs w a (acc A)) (hn : A.length ≤ 4398046511104) :
    Calls Tryd.prog 32 #[.slice a A.length k, .string s] w fun e w' => e = .returned (.int .i64 (fndI A s)) ∧ Below w.heap.size w w' := by
  have HA := Lib.hid hR
  obtain ⟨n, hnn⟩ : ∃ n, A.length = n := ⟨_, rfl⟩
  have HN := Lib.hid hnn
  have HNL : Hid (n ≤ 4398046511104) := Lib.hid (by omega)
  have HF1 : Hid (∀ i, i < n → (∀ t, t < i → (aca A t).1 ≠ s) → (aca A i).1 = s → fndI A s = i) := Lib.hid fun i h1 h2 h3 => by
    have e := fnd_is (A := A) (by omega) h2 h3
    unfold fndI
    rw [e, if_pos (by omega)]
  have HF2 : Hid ((∀ t, t < n → (aca A t).1 ≠ s) → fndI A s = -1) := Lib.hid fun h => by
    have e := fnd_no (A := A) (s := s) (fun j hj => h j (by omega))
    unfold fndI
    rw [e, if_neg (by omega)]
  rw [hnn]
  generalize fndI A s = r at *
  clear hR hn hnn
  go_enter Tryd.func32, Tryd.ntmps32
  go_upto_region 1 with fail
  apply wp_region_lit
  refine gw_val (by kernel_rfl) (some 7) rfl (.slice a n k) (by kernel_rfl) ?_
  simp only [pu1, pu2, pu3, pu4]
  refine gw_val (by kernel_rfl) (some 8) rfl (.int .i64 n) (by kernel_rfl) ?_
  simp only [pu1, pu2, pu3, pu4]
  refine gw_val (by kernel_rfl) (some 9) rfl (.int .i64 0) (by kernel_rfl) ?_
  simp only [pu1, pu2, pu3, pu4]
  apply wpList_nil
  go_wp2_with fail
  go_loopg [9] n (fun gg s9 wx => ∃ j : Nat, s9 = .int .i64 j ∧ j ≤ n ∧ Hid (∀ t, t < j → (aca A t).1 ≠ s) ∧ Hid (Below w.heap.size w wx) ∧ n - j = gg)
  case atStart => exact ⟨0, rfl, by omega, Lib.hid (fun t h => by omega), Lib.hid (Below.refl _ _), by omega⟩
  case round =>
    obtain ⟨j, rfl, hj, HO, HB, hg⟩ := hrel
    have hn9 := HNL.out
    by_cases hlt : j < n
    · skip
      obtain ⟨b, off, rfl, -, hrx⟩ := ac_range (HA.out.below HB.out) (k := j) (by rw [HN.out]; exact hlt)
      have HLD := Lib.hid (load_ac hrx)
      have hf1 := HF1.out j hlt HO.out
      generalize hy : aca A j = y at *
      have HY := Lib.hid hy
      have HG := Lib.hid hg
      obtain ⟨V2, hst, hb2, hbx⟩ := new_ac wr y
      have HB2 := Lib.hid (HB.out.trans (hb2.mono HB.out.size))
      clear hrx hy hg hb2
      go_upto_region 2 with fail
      apply wp_region_lit
      refine gw_val (by kernel_rfl) (some 10) rfl (.bool true) (lss_n rfl (j) (n) (decide_eq_true (by omega)) (by kernel_rfl) (by kernel_rfl) _) ?_
      simp only [pu1, pu2, pu3, pu4]
      apply wpList_nil
      go_upto_region 3 with fail
      apply wp_region_lit
      refine gw_val (by kernel_rfl) (some 11) rfl (.int .i64 j) (by kernel_rfl) ?_
      simp only [pu1, pu2, pu3, pu4]
      refine gw_val (by kernel_rfl) (some 12) rfl (.pointer (some ⟨b, off + j * 3, none⟩)) (idx_ac b off n k j hlt _ _ _ rfl (by kernel_rfl) (by kernel_rfl)) ?_
      simp only [pu1, pu2, pu3, pu4]
      refine gw_load (by kernel_rfl) (some 13) rfl 37 (.tmp 12) rfl ⟨b, off + j * 3, none⟩ (.agg (acA y)) (by kernel_rfl) (HLD.out) ?_
      simp only [pu1, pu2, pu3, pu4]
      refine run_to rfl (some 6) rfl (.pointer (some ⟨wr.heap.size, 0, none⟩)) (wr.alloc (.cells (acA zAc) 37)) (by kernel_rfl) ?_
      simp only [pu1, pu2, pu3, pu4]
      refine gw_val (by kernel_rfl) (some 5) rfl (.int .i64 j) (by kernel_rfl) ?_
      simp only [pu1, pu2, pu3, pu4]
      refine gw_store (by kernel_rfl) rfl 37 (.tmp 6) (.tmp 13) rfl (.pointer (some ⟨wr.heap.size, 0, none⟩)) (.agg (acA y)) (by kernel_rfl) (by kernel_rfl) (V2) (hst) ?_
      apply wpList_nil
      obtain ⟨g4, hg4⟩ : ∃ g4, wr.heap.size = g4 := ⟨_, rfl⟩
      rw [hg4] at hbx ⊢
      clear hst hg4 HLD
      by_cases hey : y.1 = s
      · skip
        go_upto_region 4 with fail
        apply wp_region_lit
        refine gw_val (by kernel_rfl) (some 14) rfl (.pointer (some ⟨g4, 0, none⟩)) (by kernel_rfl) ?_
        simp only [pu1, pu2, pu3, pu4]
        refine gw_load (by kernel_rfl) (some 15) rfl 9 (.tmp 14) rfl ⟨g4, 0, none⟩ (.string y.1) (by kernel_rfl) (hbx.load (i := 0) rfl (by kernel_rfl)) ?_
        simp only [pu1, pu2, pu3, pu4]
        refine gw_val (by kernel_rfl) (some 16) rfl (.string s) (by kernel_rfl) ?_
        simp only [pu1, pu2, pu3, pu4]
        refine gw_val (by kernel_rfl) (some 17) rfl (.bool true) (eql_s rfl y.1 s (by rw [beqB]; exact decide_eq_true hey) (by kernel_rfl) (by kernel_rfl) _) ?_
        simp only [pu1, pu2, pu3, pu4]
        apply wpList_nil
        clear hbx
        have HR := Lib.hid (hf1 hey)
        clear hf1 HO HB
        go_upto_region 5 with fail
        apply wp_region_lit
        refine gw_val (by kernel_rfl) (some 18) rfl (.int .i64 j) (by kernel_rfl) ?_
        simp only [pu1, pu2, pu3, pu4]
        refine gw_val (by kernel_rfl) (some 4) rfl (.int .i64 j) (by kernel_rfl) ?_
        simp only [pu1, pu2, pu3, pu4]
        apply wpList_nil
        go_wp2_with fail
        go_ret
        exact ⟨by rw [HR.out]; rfl, HB2.out⟩
      · skip
        go_upto_region 4 with fail
        apply wp_region_lit
        refine gw_val (by kernel_rfl) (some 14) rfl (.pointer (some ⟨g4, 0, none⟩)) (by kernel_rfl) ?_
        simp only [pu1, pu2, pu3, pu4]
        refine gw_load (by kernel_rfl) (some 15) rfl 9 (.tmp 14) rfl ⟨g4, 0, none⟩ (.string y.1) (by kernel_rfl) (hbx.load (i := 0) rfl (by kernel_rfl)) ?_
        simp only [pu1, pu2, pu3, pu4]
        refine gw_val (by kernel_rfl) (some 16) rfl (.string s) (by kernel_rfl) ?_
        simp only [pu1, pu2, pu3, pu4]
        refine gw_val (by kernel_rfl) (some 17) rfl (.bool false) (eql_s rfl y.1 s (by rw [beqB]; exact decide_eq_false hey) (by kernel_rfl) (by kernel_rfl) _) ?_
        simp only [pu1, pu2, pu3, pu4]
        apply wpList_nil
        clear hbx
        have HO9 : Hid (∀ t, t < j + 1 → (aca A t).1 ≠ s) := Lib.hid fun t ht => (by rcases Nat.lt_or_ge t j with h7 | h7; exact HO.out t h7; have e7 : t = j := (by omega); rw [e7, HY.out]; exact hey)
        clear hf1 HO HB hey
        go_upto_region 6 with fail
        apply wp_region_lit
        refine gw_val (by kernel_rfl) (some 19) rfl (.int .i64 (j + 1 : Nat)) (add_nat rfl j 1 (by omega) (by kernel_rfl) (by kernel_rfl) _) ?_
        simp only [pu1, pu2, pu3, pu4]
        refine gw_val (by kernel_rfl) (some 9) rfl (.int .i64 (j + 1 : Nat)) (by kernel_rfl) ?_
        simp only [pu1, pu2, pu3, pu4]
        apply wpList_nil
        go_wp2_with fail
        go_roundg (n - (j + 1))
        case measure => have := HG.out; omega
        case rel => exact ⟨j + 1, rfl, hlt, HO9, HB2, rfl⟩
    · skip
      obtain rfl : n = j := by omega
      obtain rfl := HF2.out HO.out
      clear HO HF1 HF2 hg
      go_upto_region 2 with fail
      apply wp_region_lit
      refine gw_val (by kernel_rfl) (some 10) rfl (.bool false) (lss_n rfl (n) (n) (decide_eq_false (by omega)) (by kernel_rfl) (by kernel_rfl) _) ?_
      simp only [pu1, pu2, pu3, pu4]
      apply wpList_nil
      go_upto_region 7 with fail
      apply wp_region_lit
      refine gw_val (by kernel_rfl) (some 4) rfl (.int .i64 (-1)) (by kernel_rfl) ?_
      simp only [pu1, pu2, pu3, pu4]
      apply wpList_nil
      go_wp2_with fail
      go_ret
      exact ⟨rfl, HB.out⟩
end Go.Proofs.YtebnlklodokhkaaDoor.Lg
