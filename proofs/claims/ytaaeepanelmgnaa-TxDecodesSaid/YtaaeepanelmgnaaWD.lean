/-
  The walk of TxWords.
-/
import Derived.Test.YtaaeepanelmgnaaKN
namespace Go.Proofs.Ytaaeepanelmgnaa
open Go.RowKit
set_option linter.unusedSimpArgs false
set_option linter.unusedVariables false

theorem add_s {ρ : Operand → Value} {o : Oper} {x y : Operand} (ho : o.op = .binOp .add 9 x y 9) (a b : ByteArray) (hs : a.size + b.size ≤ 1000000000) (hx : ρ x = .string a) (hy : ρ y = .string b) (w : World) : (execOp ρ o).run Try.prog w = .ok (.value (.string (a ++ b))) w := by
  unfold execOp
  simp only [ho, hx, hy]
  go_simp
  omega
theorem app_size (a b : ByteArray) : (a ++ b).size = a.size + b.size := ByteArray.size_append
theorem infoSt : (Try.prog.info? 9).map (fun i => (i.zero, i.size, i.bytes)) = some (some (.string ByteArray.empty), 1, 16) := by kernel_rfl
theorem idx_str (b off n c k : Nat) (hk : k < n) (V : World) (ρ : Operand → Value) (o : Oper) {x y : Operand} (ho : o.op = .indexAddr 23 x y) (hx : ρ x = .slice (some ⟨b, off, none⟩) n c) (hy : ρ y = .int .i64 k) : (execOp ρ o).run Try.prog V = .ok (.value (.pointer (some ⟨b, off + k, none⟩))) V := by
  have hs : (sizeOf (Try.prog.elem 23)).run Try.prog V = .ok 1 V := by kernel_rfl
  have hlm : (k : Int) < (n : Int) := by omega
  unfold execOp
  simp only [ho, hx, hy]
  go_simp
theorem str_to8 (T : ByteArray) (h : Nat) (hh : h ≤ T.size) (w : World) : (Instr.slice 9 (.string T) none (some (.int .u8 (h : Int))) none).run Try.prog w = .ok (.string (T.extract 0 h)) w := by
  simp [Instr.slice, run_underlying Try.underlying9, Instr.sliceBounds, Instr.sliceBound, asIntOf, go_sem]
  intro h'
  omega
/-- Strings in a row that begins its block. -/
def strs (S : List ByteArray) : List Value := S.map Value.string
theorem strs_at {S : List ByteArray} {k : Nat} (h : k < S.length) : (strs S)[k]? = some (.string (S.getD k mtS)) := by
  unfold strs
  rw [List.getElem?_map, List.getElem?_eq_getElem h, List.getD_eq_getElem?_getD, List.getElem?_eq_getElem h]
  rfl
theorem load_str {w : World} {g t : Nat} {S : List ByteArray} (h : Bx w g (strs S).toArray t) {k : Nat} (hk : k < S.length) : (Instr.loadAt 9 (.pointer (some ⟨g, 0 + k, none⟩))).run Try.prog w = .ok (.string (S.getD k mtS)) w := by
  rw [Nat.zero_add]
  exact Bx.load h (i := k) (by rw [List.getElem?_toArray]; exact strs_at hk) (by kernel_rfl)
/-- The four runes of the statement. -/
def rns : List ByteArray := [⟨#[97]⟩, ⟨#[195, 169]⟩, ⟨#[228, 184, 150]⟩, ⟨#[240, 159, 152, 128]⟩]
theorem rns_size (k : Nat) (h : k < 4) : (rns.getD k mtS).size ≤ 4 := by
  rcases (show k = 0 ∨ k = 1 ∨ k = 2 ∨ k = 3 by omega) with rfl | rfl | rfl | rfl <;> decide
theorem build_rns (V : World) : (Instr.buildSlice 23 4 #[(0, .string ⟨#[97]⟩), (1, .string ⟨#[195, 169]⟩), (2, .string ⟨#[228, 184, 150]⟩), (3, .string ⟨#[240, 159, 152, 128]⟩)]).run Try.prog V = .ok (.slice (some ⟨V.heap.size, 0, none⟩) 4 4) (V.alloc (.cells (strs rns).toArray 9)) := by
  obtain ⟨i0, hi, hz0, hz1, hz2⟩ := info_parts infoSt
  refine run_buildSlice V 23 9 4 _ (strs rns).toArray i0 _ Try.underlying23 hi hz0 (by rw [hz1]; omega) (by rw [hz1]; omega) ?_
  rw [hz1]
  kernel_rfl
theorem build_nine (a b c d e f g h i : ByteArray) (V : World) : (Instr.buildSlice 23 9 #[(0, .string a), (1, .string b), (2, .string c), (3, .string d), (4, .string e), (5, .string f), (6, .string g), (7, .string h), (8, .string i)]).run Try.prog V = .ok (.slice (some ⟨V.heap.size, 0, none⟩) 9 9) (V.alloc (.cells (strs [a, b, c, d, e, f, g, h, i]).toArray 9)) := by
  obtain ⟨i0, hi, hz0, hz1, hz2⟩ := info_parts infoSt
  refine run_buildSlice V 23 9 9 _ (strs [a, b, c, d, e, f, g, h, i]).toArray i0 _ Try.underlying23 hi hz0 (by rw [hz1]; omega) (by rw [hz1]; omega) ?_
  rw [hz1]
  kernel_rfl
theorem rem_u8 {ρ : Operand → Value} {o : Oper} {x y : Operand} (ho : o.op = .binOp .rem 5 x y 5) (a b : Int) (hb : b ≠ 0) (hx : ρ x = .int .u8 a) (hy : ρ y = .int .u8 b) (w : World) : (execOp ρ o).run Try.prog w = .ok (.value (.int .u8 (a.tmod b))) w := by
  have hbb : (b == 0) = false := by simpa using hb
  unfold execOp
  simp only [ho, hx, hy]
  go_simp
theorem conv_u8 {ρ : Operand → Value} {o : Oper} {x : Operand} (ho : o.op = .convert 5 3 x) (a : Int) (h0 : 0 ≤ a) (h1 : a ≤ 255) (hx : ρ x = .int .u8 a) (w : World) : (execOp ρ o).run Try.prog w = .ok (.value (.int .i64 a)) w := by
  have hw : IntKind.i64.wrap a = a := by
    rw [IntKind.wrap_i64]; omega
  unfold execOp
  simp only [ho, hx]
  go_simp
theorem mul_i {ρ : Operand → Value} {o : Oper} {x y : Operand} (ho : o.op = .binOp .mul 3 x y 3) (a b : Nat) (h : a * b ≤ 1000000000) (hx : ρ x = .int .i64 a) (hy : ρ y = .int .i64 b) (w : World) : (execOp ρ o).run Try.prog w = .ok (.value (.int .i64 (a * b : Nat))) w := by
  have hw : IntKind.i64.wrap ((a : Int) * (b : Int)) = ((a * b : Nat) : Int) := by
    rw [show (a : Int) * (b : Int) = ((a * b : Nat) : Int) by simp]
    rw [IntKind.wrap_i64]; omega
  unfold execOp
  simp only [ho, hx, hy]
  go_simp
theorem rem_nat {ρ : Operand → Value} {o : Oper} {x y : Operand} (ho : o.op = .binOp .rem 3 x y 3) (a b : Nat) (hb : b ≠ 0) (hx : ρ x = .int .i64 a) (hy : ρ y = .int .i64 b) (w : World) : (execOp ρ o).run Try.prog w = .ok (.value (.int .i64 (a % b : Nat))) w := by
  have := rem_i64 ho a b (by omega) hx hy w
  rw [this]
  congr 1
theorem mul_rem (a : Nat) : a % 4 = a % 4 := rfl
theorem neq_b0 {ρ : Operand → Value} {o : Oper} {x y : Operand} (ho : o.op = .binOp .neq 4 x y 4) (a : Bool) (hx : ρ x = .bool a) (hy : ρ y = .bool a) (w : World) : (execOp ρ o).run Try.prog w = .ok (.value (.bool false)) w := by
  unfold execOp
  simp only [ho, hx, hy]
  cases a <;> go_simp
set_option maxRecDepth 100000 in
set_option maxHeartbeats 8000000 in
theorem words_core (a b : ByteArray) (n : Nat) (w : World) (ha : a.size ≤ 140737488355328) (hb : b.size ≤ 140737488355328) (hn : n ≤ 255) :
    Calls Try.prog 3 #[.string a, .string b, .int .u8 n] w fun e w' => e = .returned (.bool true) ∧ Below w.heap.size w w' := by
  have HK := Lib.hid (fun (V : World) (h : Below w.heap.size w V) => (known_true V).mono fun e w' (q : e = .returned (.bool true) ∧ Below V.heap.size V w') => (⟨q.1, h.trans (q.2.mono h.size)⟩ : e = .returned (.bool true) ∧ Below w.heap.size w w'))
  obtain ⟨la, hla⟩ : ∃ la, a.size = la := ⟨_, rfl⟩
  obtain ⟨lb, hlb⟩ : ∃ lb, b.size = lb := ⟨_, rfl⟩
  have HA := Lib.hid hla
  have HB := Lib.hid hlb
  rw [hla] at ha
  rw [hlb] at hb
  go_enter Try.func3, Try.ntmps3
  go_upto_region 1 with fail
  clear hla hlb
  by_cases hc : 600 < la + lb
  · skip
    apply wp_region_lit
    refine gw_val (by kernel_rfl) (some 11) rfl (.string a) (by kernel_rfl) ?_
    simp only [pu1, pu2, pu3, pu4]
    refine gw_val (by kernel_rfl) (some 12) rfl (.int .i64 la) (by rw [← HA.out]; kernel_rfl) ?_
    simp only [pu1, pu2, pu3, pu4]
    refine gw_val (by kernel_rfl) (some 13) rfl (.string b) (by kernel_rfl) ?_
    simp only [pu1, pu2, pu3, pu4]
    refine gw_val (by kernel_rfl) (some 14) rfl (.int .i64 lb) (by rw [← HB.out]; kernel_rfl) ?_
    simp only [pu1, pu2, pu3, pu4]
    refine gw_val (by kernel_rfl) (some 15) rfl (.int .i64 (la + lb : Nat)) (add_nat rfl la lb (by omega) (by kernel_rfl) (by kernel_rfl) _) ?_
    simp only [pu1, pu2, pu3, pu4]
    refine gw_val (by kernel_rfl) (some 16) rfl (.bool true) (gtr_n rfl ((la + lb : Nat)) (600) (decide_eq_true (by omega)) (by kernel_rfl) (by kernel_rfl) _) ?_
    simp only [pu1, pu2, pu3, pu4]
    apply wpList_nil
    go_upto_region 2 with fail
    apply wp_region_lit
    refine gw_call (by kernel_rfl) (some 17) rfl 9 #[] (.bool true) (fun w' => Below w.heap.size w w') (by kernel_rfl) (HK.out w (Below.refl _ _)) (fun V9 hV9 => ?_)
    simp only [pu1, pu2, pu3, pu4]
    refine gw_val (by kernel_rfl) (some 6) rfl (.bool true) (by kernel_rfl) ?_
    simp only [pu1, pu2, pu3, pu4]
    apply wpList_nil
    have HE := Lib.hid hV9
    clear hV9
    go_wp2_with fail
    go_ret
    exact ⟨rfl, HE.out⟩
  · skip
    apply wp_region_lit
    refine gw_val (by kernel_rfl) (some 11) rfl (.string a) (by kernel_rfl) ?_
    simp only [pu1, pu2, pu3, pu4]
    refine gw_val (by kernel_rfl) (some 12) rfl (.int .i64 la) (by rw [← HA.out]; kernel_rfl) ?_
    simp only [pu1, pu2, pu3, pu4]
    refine gw_val (by kernel_rfl) (some 13) rfl (.string b) (by kernel_rfl) ?_
    simp only [pu1, pu2, pu3, pu4]
    refine gw_val (by kernel_rfl) (some 14) rfl (.int .i64 lb) (by rw [← HB.out]; kernel_rfl) ?_
    simp only [pu1, pu2, pu3, pu4]
    refine gw_val (by kernel_rfl) (some 15) rfl (.int .i64 (la + lb : Nat)) (add_nat rfl la lb (by omega) (by kernel_rfl) (by kernel_rfl) _) ?_
    simp only [pu1, pu2, pu3, pu4]
    refine gw_val (by kernel_rfl) (some 16) rfl (.bool false) (gtr_n rfl ((la + lb : Nat)) (600) (decide_eq_false (by omega)) (by kernel_rfl) (by kernel_rfl) _) ?_
    simp only [pu1, pu2, pu3, pu4]
    apply wpList_nil
    go_upto_region 3 with fail
    apply wp_region_lit
    refine gw_val (by kernel_rfl) (some 7) rfl (.string ⟨#[]⟩) (by kernel_rfl) ?_
    simp only [pu1, pu2, pu3, pu4]
    apply wpList_nil
    go_upto_region 4 with fail
    apply wp_region_lit
    refine gw_val (by kernel_rfl) (some 8) rfl (.int .i64 0) (by kernel_rfl) ?_
    simp only [pu1, pu2, pu3, pu4]
    apply wpList_nil
    have HLE : Hid (la + lb ≤ 600) := Lib.hid (by omega)
    clear hc ha hb
    go_wp2_with fail
    go_loopg [7, 8] (60 + n % 10) (fun gg s7 s8 wx => ∃ (i : Nat) (M : ByteArray), s7 = .string M ∧ s8 = .int .i64 i ∧ i ≤ 60 + n % 10 ∧ Hid (M.size ≤ 4 * i) ∧ Hid (Below w.heap.size w wx) ∧ 60 + n % 10 - i = gg)
    case atStart => exact ⟨0, ⟨#[]⟩, rfl, rfl, by omega, Lib.hid (by decide), Lib.hid (Below.refl _ _), by omega⟩
    case round =>
      obtain ⟨i, M, rfl, rfl, hi, HM, HBW, hg⟩ := hrel
      by_cases hlt : i < 60 + n % 10
      · skip
        have HG : Hid (60 + n % 10 - (i + 1) = gk - 1 ∧ 0 < gk ∧ i + 1 ≤ 60 + n % 10) := Lib.hid ⟨by omega, by omega, by omega⟩
        have HIN : i * n ≤ 20000 := Nat.le_trans (Nat.mul_le_mul (show i ≤ 70 by omega) hn) (by decide)
        have hk : i * n % 4 < 4 := Nat.mod_lt _ (by decide)
        have hbx : Bx (wr.alloc (.cells (strs rns).toArray 9)) wr.heap.size (strs rns).toArray 9 := heap_alloc_last wr _
        have hbw : Below wr.heap.size wr (wr.alloc (.cells (strs rns).toArray 9)) := (Below.refl _ wr).alloc (Nat.le_refl _) _
        have hbd := build_rns wr
        generalize wr.alloc (.cells (strs rns).toArray 9) = V1 at *
        have hld := load_str hbx (k := i * n % 4) hk
        have hsz := rns_size (i * n % 4) hk
        obtain ⟨q, hq⟩ : ∃ q, i * n % 4 = q := ⟨_, rfl⟩
        have HR := Lib.hid hq
        rw [hq] at hk hld hsz
        generalize rns.getD q mtS = u at *
        have HM2 : Hid ((M ++ u).size ≤ 4 * (i + 1)) := Lib.hid (by rw [app_size]; have := HM.out; omega)
        have HBW2 := Lib.hid (HBW.out.trans (hbw.mono HBW.out.size))
        have hMs : M.size + u.size ≤ 1000000000 := by have := HM.out; omega
        clear hbx hbw hg HM HBW hq
        go_upto_region 5 with fail
        apply wp_region_lit
        refine gw_val (by kernel_rfl) (some 18) rfl (.int .i64 i) (by kernel_rfl) ?_
        simp only [pu1, pu2, pu3, pu4]
        refine gw_val (by kernel_rfl) (some 19) rfl (.int .u8 n) (by kernel_rfl) ?_
        simp only [pu1, pu2, pu3, pu4]
        refine gw_val (by kernel_rfl) (some 20) rfl (.int .u8 (n % 10 : Nat)) (rem_u8 rfl n 10 (by decide) (by kernel_rfl) (by kernel_rfl) _) ?_
        simp only [pu1, pu2, pu3, pu4]
        refine gw_val (by kernel_rfl) (some 21) rfl (.int .i64 (n % 10 : Nat)) (conv_u8 rfl (n % 10 : Nat) (by omega) (by omega) (by kernel_rfl) _) ?_
        simp only [pu1, pu2, pu3, pu4]
        refine gw_val (by kernel_rfl) (some 22) rfl (.int .i64 (60 + n % 10 : Nat)) (add_nat rfl 60 (n % 10) (by omega) (by kernel_rfl) (by kernel_rfl) _) ?_
        simp only [pu1, pu2, pu3, pu4]
        refine gw_val (by kernel_rfl) (some 23) rfl (.bool true) (lss_n rfl (i) ((60 + n % 10 : Nat)) (decide_eq_true (by omega)) (by kernel_rfl) (by kernel_rfl) _) ?_
        simp only [pu1, pu2, pu3, pu4]
        apply wpList_nil
        go_upto_region 7 with fail
        apply wp_region_lit
        refine gw_val (by kernel_rfl) (some 26) rfl (.string M) (by kernel_rfl) ?_
        simp only [pu1, pu2, pu3, pu4]
        refine gw_build (by kernel_rfl) (some 27) rfl 23 4 #[(0, .const (.string ⟨#[97]⟩)), (1, .const (.string ⟨#[195, 169]⟩)), (2, .const (.string ⟨#[228, 184, 150]⟩)), (3, .const (.string ⟨#[240, 159, 152, 128]⟩))] rfl #[(0, .string ⟨#[97]⟩), (1, .string ⟨#[195, 169]⟩), (2, .string ⟨#[228, 184, 150]⟩), (3, .string ⟨#[240, 159, 152, 128]⟩)] (by kernel_rfl) (.slice (some ⟨wr.heap.size, 0, none⟩) 4 4) _ hbd ?_
        simp only [pu1, pu2, pu3, pu4]
        refine gw_val (by kernel_rfl) (some 28) rfl (.int .i64 i) (by kernel_rfl) ?_
        simp only [pu1, pu2, pu3, pu4]
        refine gw_val (by kernel_rfl) (some 29) rfl (.int .u8 n) (by kernel_rfl) ?_
        simp only [pu1, pu2, pu3, pu4]
        refine gw_val (by kernel_rfl) (some 30) rfl (.int .i64 n) (conv_u8 rfl n (by omega) (by omega) (by kernel_rfl) _) ?_
        simp only [pu1, pu2, pu3, pu4]
        refine gw_val (by kernel_rfl) (some 31) rfl (.int .i64 (i * n : Nat)) (mul_i rfl i n (by omega) (by kernel_rfl) (by kernel_rfl) _) ?_
        simp only [pu1, pu2, pu3, pu4]
        refine gw_val (by kernel_rfl) (some 32) rfl (.int .i64 q) (by rw [← HR.out]; exact rem_nat rfl (i * n) 4 (by decide) (by kernel_rfl) (by kernel_rfl) _) ?_
        simp only [pu1, pu2, pu3, pu4]
        refine gw_val (by kernel_rfl) (some 33) rfl (.pointer (some ⟨wr.heap.size, 0 + q, none⟩)) (idx_str wr.heap.size 0 4 4 q hk _ _ _ rfl (by kernel_rfl) (by kernel_rfl)) ?_
        simp only [pu1, pu2, pu3, pu4]
        refine gw_load (by kernel_rfl) (some 34) rfl 9 (.tmp 33) rfl ⟨wr.heap.size, 0 + q, none⟩ (.string u) (by kernel_rfl) (hld) ?_
        simp only [pu1, pu2, pu3, pu4]
        refine gw_val (by kernel_rfl) (some 35) rfl (.string (M ++ u)) (add_s rfl M u hMs (by kernel_rfl) (by kernel_rfl) _) ?_
        simp only [pu1, pu2, pu3, pu4]
        refine gw_val (by kernel_rfl) (some 7) rfl (.string (M ++ u)) (by kernel_rfl) ?_
        simp only [pu1, pu2, pu3, pu4]
        apply wpList_nil
        clear hbd hld HR hMs
        go_upto_region 6 with fail
        apply wp_region_lit
        refine gw_val (by kernel_rfl) (some 24) rfl (.int .i64 i) (by kernel_rfl) ?_
        simp only [pu1, pu2, pu3, pu4]
        refine gw_val (by kernel_rfl) (some 25) rfl (.int .i64 (i + 1 : Nat)) (add_one rfl i (by omega) (by kernel_rfl) _) ?_
        simp only [pu1, pu2, pu3, pu4]
        refine gw_val (by kernel_rfl) (some 8) rfl (.int .i64 (i + 1 : Nat)) (by kernel_rfl) ?_
        simp only [pu1, pu2, pu3, pu4]
        apply wpList_nil
        go_wp2_with fail
        go_roundg (gk - 1)
        case measure => have := HG.out; omega
        case rel => exact ⟨i + 1, M ++ u, rfl, rfl, HG.out.2.2, HM2, HBW2, HG.out.1⟩
      · skip
        have HM1 : Hid (M.size ≤ 280) := Lib.hid (by have := HM.out; omega)
        clear HM hg
        go_upto_region 5 with fail
        apply wp_region_lit
        refine gw_val (by kernel_rfl) (some 18) rfl (.int .i64 i) (by kernel_rfl) ?_
        simp only [pu1, pu2, pu3, pu4]
        refine gw_val (by kernel_rfl) (some 19) rfl (.int .u8 n) (by kernel_rfl) ?_
        simp only [pu1, pu2, pu3, pu4]
        refine gw_val (by kernel_rfl) (some 20) rfl (.int .u8 (n % 10 : Nat)) (rem_u8 rfl n 10 (by decide) (by kernel_rfl) (by kernel_rfl) _) ?_
        simp only [pu1, pu2, pu3, pu4]
        refine gw_val (by kernel_rfl) (some 21) rfl (.int .i64 (n % 10 : Nat)) (conv_u8 rfl (n % 10 : Nat) (by omega) (by omega) (by kernel_rfl) _) ?_
        simp only [pu1, pu2, pu3, pu4]
        refine gw_val (by kernel_rfl) (some 22) rfl (.int .i64 (60 + n % 10 : Nat)) (add_nat rfl 60 (n % 10) (by omega) (by kernel_rfl) (by kernel_rfl) _) ?_
        simp only [pu1, pu2, pu3, pu4]
        refine gw_val (by kernel_rfl) (some 23) rfl (.bool false) (lss_n rfl (i) ((60 + n % 10 : Nat)) (decide_eq_false (by omega)) (by kernel_rfl) (by kernel_rfl) _) ?_
        simp only [pu1, pu2, pu3, pu4]
        apply wpList_nil
        have hsl8 := str_to8 ⟨#[97, 97, 97, 97, 97, 97, 97, 97, 97, 97, 97, 97, 97, 97, 97, 97, 97, 97, 97, 97, 97, 97, 97, 97]⟩ (n % 25) (by have : (⟨#[97, 97, 97, 97, 97, 97, 97, 97, 97, 97, 97, 97, 97, 97, 97, 97, 97, 97, 97, 97, 97, 97, 97, 97]⟩ : ByteArray).size = 24 := rfl; omega)
        have hus : ((⟨#[97, 97, 97, 97, 97, 97, 97, 97, 97, 97, 97, 97, 97, 97, 97, 97, 97, 97, 97, 97, 97, 97, 97, 97]⟩ : ByteArray).extract 0 (n % 25)).size ≤ 24 := by
          rw [← nums_len, nums_ext, List.length_take, List.length_drop, nums_len]
          have : (⟨#[97, 97, 97, 97, 97, 97, 97, 97, 97, 97, 97, 97, 97, 97, 97, 97, 97, 97, 97, 97, 97, 97, 97, 97]⟩ : ByteArray).size = 24 := rfl
          omega
        generalize (⟨#[97, 97, 97, 97, 97, 97, 97, 97, 97, 97, 97, 97, 97, 97, 97, 97, 97, 97, 97, 97, 97, 97, 97, 97]⟩ : ByteArray).extract 0 (n % 25) = u at *
        have hbd := build_nine a b (a ++ b) M (M ++ a) u ⟨#[237, 160, 128]⟩ ⟨#[192, 128]⟩ ⟨#[244, 144, 128, 128]⟩ wr
        have hbx : Bx (wr.alloc (.cells (strs [a, b, a ++ b, M, M ++ a, u, ⟨#[237, 160, 128]⟩, ⟨#[192, 128]⟩, ⟨#[244, 144, 128, 128]⟩]).toArray 9)) wr.heap.size (strs [a, b, a ++ b, M, M ++ a, u, ⟨#[237, 160, 128]⟩, ⟨#[192, 128]⟩, ⟨#[244, 144, 128, 128]⟩]).toArray 9 := heap_alloc_last wr _
        have hbw : Below wr.heap.size wr (wr.alloc (.cells (strs [a, b, a ++ b, M, M ++ a, u, ⟨#[237, 160, 128]⟩, ⟨#[192, 128]⟩, ⟨#[244, 144, 128, 128]⟩]).toArray 9)) := (Below.refl _ wr).alloc (Nat.le_refl _) _
        generalize wr.alloc (.cells (strs [a, b, a ++ b, M, M ++ a, u, ⟨#[237, 160, 128]⟩, ⟨#[192, 128]⟩, ⟨#[244, 144, 128, 128]⟩]).toArray 9) = V1 at *
        have h1 : a.size + b.size ≤ 1000000000 := by have := HLE.out; have := HA.out; have := HB.out; omega
        have h2 : M.size + a.size ≤ 1000000000 := by have := HLE.out; have := HA.out; have := HM1.out; omega
        have HSZ : Hid (∀ k, k < 9 → (List.getD [a, b, a ++ b, M, M ++ a, u, ⟨#[237, 160, 128]⟩, ⟨#[192, 128]⟩, ⟨#[244, 144, 128, 128]⟩] k mtS).size ≤ 140737488355328) := Lib.hid (fun k hk => by
          have q1 := HLE.out
          have q2 := HA.out
          have q3 := HB.out
          have q4 := HM1.out
          rcases (show k = 0 ∨ k = 1 ∨ k = 2 ∨ k = 3 ∨ k = 4 ∨ k = 5 ∨ k = 6 ∨ k = 7 ∨ k = 8 by omega) with rfl | rfl | rfl | rfl | rfl | rfl | rfl | rfl | rfl
          · show a.size ≤ _; omega
          · show b.size ≤ _; omega
          · show (a ++ b).size ≤ _; rw [app_size]; omega
          · show M.size ≤ _; omega
          · show (M ++ a).size ≤ _; rw [app_size]; omega
          · show u.size ≤ _; omega
          · show (ByteArray.mk #[237, 160, 128]).size ≤ _; decide
          · show (ByteArray.mk #[192, 128]).size ≤ _; decide
          · show (ByteArray.mk #[244, 144, 128, 128]).size ≤ _; decide)
        go_upto_region 8 with fail
        apply wp_region_lit
        refine gw_val (by kernel_rfl) (some 36) rfl (.string a) (by kernel_rfl) ?_
        simp only [pu1, pu2, pu3, pu4]
        refine gw_val (by kernel_rfl) (some 37) rfl (.string b) (by kernel_rfl) ?_
        simp only [pu1, pu2, pu3, pu4]
        refine gw_val (by kernel_rfl) (some 38) rfl (.string a) (by kernel_rfl) ?_
        simp only [pu1, pu2, pu3, pu4]
        refine gw_val (by kernel_rfl) (some 39) rfl (.string b) (by kernel_rfl) ?_
        simp only [pu1, pu2, pu3, pu4]
        refine gw_val (by kernel_rfl) (some 40) rfl (.string (a ++ b)) (add_s rfl a b h1 (by kernel_rfl) (by kernel_rfl) _) ?_
        simp only [pu1, pu2, pu3, pu4]
        refine gw_val (by kernel_rfl) (some 41) rfl (.string M) (by kernel_rfl) ?_
        simp only [pu1, pu2, pu3, pu4]
        refine gw_val (by kernel_rfl) (some 42) rfl (.string M) (by kernel_rfl) ?_
        simp only [pu1, pu2, pu3, pu4]
        refine gw_val (by kernel_rfl) (some 43) rfl (.string a) (by kernel_rfl) ?_
        simp only [pu1, pu2, pu3, pu4]
        refine gw_val (by kernel_rfl) (some 44) rfl (.string (M ++ a)) (add_s rfl M a h2 (by kernel_rfl) (by kernel_rfl) _) ?_
        simp only [pu1, pu2, pu3, pu4]
        refine gw_val (by kernel_rfl) (some 45) rfl (.int .u8 n) (by kernel_rfl) ?_
        simp only [pu1, pu2, pu3, pu4]
        refine gw_val (by kernel_rfl) (some 46) rfl (.int .u8 (n % 25 : Nat)) (rem_u8 rfl n 25 (by decide) (by kernel_rfl) (by kernel_rfl) _) ?_
        simp only [pu1, pu2, pu3, pu4]
        refine gw_slice_to (by kernel_rfl) (some 47) rfl 9 (.const (.string ⟨#[97, 97, 97, 97, 97, 97, 97, 97, 97, 97, 97, 97, 97, 97, 97, 97, 97, 97, 97, 97, 97, 97, 97, 97]⟩)) (.tmp 46) rfl (.string ⟨#[97, 97, 97, 97, 97, 97, 97, 97, 97, 97, 97, 97, 97, 97, 97, 97, 97, 97, 97, 97, 97, 97, 97, 97]⟩) (.int .u8 (n % 25 : Nat)) (.string u) (by kernel_rfl) (by kernel_rfl) (hsl8 _) ?_
        simp only [pu1, pu2, pu3, pu4]
        refine gw_build (by kernel_rfl) (some 48) rfl 23 9 #[(0, .tmp 36), (1, .tmp 37), (2, .tmp 40), (3, .tmp 41), (4, .tmp 44), (5, .tmp 47), (6, .const (.string ⟨#[237, 160, 128]⟩)), (7, .const (.string ⟨#[192, 128]⟩)), (8, .const (.string ⟨#[244, 144, 128, 128]⟩))] rfl #[(0, .string a), (1, .string b), (2, .string (a ++ b)), (3, .string M), (4, .string (M ++ a)), (5, .string u), (6, .string ⟨#[237, 160, 128]⟩), (7, .string ⟨#[192, 128]⟩), (8, .string ⟨#[244, 144, 128, 128]⟩)] (by kernel_rfl) (.slice (some ⟨wr.heap.size, 0, none⟩) 9 9) _ hbd ?_
        simp only [pu1, pu2, pu3, pu4]
        refine gw_val (by kernel_rfl) (some 49) rfl (.int .i64 9) (by kernel_rfl) ?_
        simp only [pu1, pu2, pu3, pu4]
        refine gw_val (by kernel_rfl) (some 50) rfl (.int .i64 0) (by kernel_rfl) ?_
        simp only [pu1, pu2, pu3, pu4]
        apply wpList_nil
        have hSl : ([a, b, a ++ b, M, M ++ a, u, ⟨#[237, 160, 128]⟩, ⟨#[192, 128]⟩, ⟨#[244, 144, 128, 128]⟩] : List ByteArray).length = 9 := rfl
        generalize [a, b, a ++ b, M, M ++ a, u, ⟨#[237, 160, 128]⟩, ⟨#[192, 128]⟩, ⟨#[244, 144, 128, 128]⟩] = S at *
        obtain ⟨g8, hg8⟩ : ∃ g8, wr.heap.size = g8 := ⟨_, rfl⟩
        have HBV := Lib.hid (HBW.out.trans (hbw.mono HBW.out.size))
        have HX := Lib.hid hbx
        have HSL := Lib.hid hSl
        rw [hg8] at HX ⊢
        clear hbd hsl8 hus h1 h2 hbx hbw HBW hg8 hSl HM1 HLE
        go_wp2_with fail
        go_loopg [50] 9 (fun gg s50 wx => ∃ j : Nat, s50 = .int .i64 j ∧ j ≤ 9 ∧ Hid (Below V1.heap.size V1 wx) ∧ 9 - j = gg)
        case atStart => exact ⟨0, rfl, by omega, Lib.hid (Below.refl _ _), by omega⟩
        case round =>
          obtain ⟨j, rfl, hj, HB1, hg⟩ := hrel
          by_cases hlt2 : j < 9
          · skip
            have HG : Hid (9 - (j + 1) = gk - 1 ∧ 0 < gk ∧ j + 1 ≤ 9) := Lib.hid ⟨by omega, by omega, by omega⟩
            have hld := load_str (HX.out.below HX.out.lt HB1.out) (k := j) (by rw [HSL.out]; exact hlt2)
            have hsz := HSZ.out j hlt2
            generalize S.getD j mtS = s at *
            have C1 := q_isname s wr
            have C2 := Lib.hid (fun V => ref_isname s V hsz)
            have C3 := Lib.hid (fun V => q_ismemo s V hsz)
            have C4 := Lib.hid (fun V => ref_ismemo s V hsz)
            generalize isName (nums s) = t1 at *
            generalize isMemo (nums s) = t2 at *
            clear hg
            go_upto_region 9 with fail
            apply wp_region_lit
            refine gw_val (by kernel_rfl) (some 51) rfl (.bool true) (lss_n rfl (j) (9) (decide_eq_true (by omega)) (by kernel_rfl) (by kernel_rfl) _) ?_
            simp only [pu1, pu2, pu3, pu4]
            apply wpList_nil
            go_upto_region 10 with fail
            apply wp_region_lit
            refine gw_val (by kernel_rfl) (some 52) rfl (.pointer (some ⟨g8, 0 + j, none⟩)) (idx_str g8 0 9 9 j hlt2 _ _ _ rfl (by kernel_rfl) (by kernel_rfl)) ?_
            simp only [pu1, pu2, pu3, pu4]
            refine gw_load (by kernel_rfl) (some 53) rfl 9 (.tmp 52) rfl ⟨g8, 0 + j, none⟩ (.string s) (by kernel_rfl) (hld) ?_
            simp only [pu1, pu2, pu3, pu4]
            refine gw_val (by kernel_rfl) (some 10) rfl (.string s) (by kernel_rfl) ?_
            simp only [pu1, pu2, pu3, pu4]
            apply wpList_nil
            clear hld hsz
            go_upto_region 11 with fail
            apply wp_region_lit
            refine gw_val (by kernel_rfl) (some 54) rfl (.string s) (by kernel_rfl) ?_
            simp only [pu1, pu2, pu3, pu4]
            refine gw_call (by kernel_rfl) (some 55) rfl 10 #[.string s] (.bool t1) (fun w' => Below wr.heap.size wr w') (by kernel_rfl) C1 (fun Y1 hY1 => ?_)
            simp only [pu1, pu2, pu3, pu4]
            refine gw_val (by kernel_rfl) (some 56) rfl (.string s) (by kernel_rfl) ?_
            simp only [pu1, pu2, pu3, pu4]
            refine gw_call (by kernel_rfl) (some 57) rfl 11 #[.string s] (.bool t1) (fun w' => Y1 = w') (by kernel_rfl) (C2.out Y1) (fun V9 hV9 => ?_)
            subst hV9
            simp only [pu1, pu2, pu3, pu4]
            refine gw_val (by kernel_rfl) (some 58) rfl (.bool false) (neq_b0 rfl t1 (by kernel_rfl) (by kernel_rfl) _) ?_
            simp only [pu1, pu2, pu3, pu4]
            refine gw_val (by kernel_rfl) (some 59) rfl (.bool false) (by kernel_rfl) ?_
            simp only [pu1, pu2, pu3, pu4]
            refine gw_val (by kernel_rfl) (some 60) rfl (.string s) (by kernel_rfl) ?_
            simp only [pu1, pu2, pu3, pu4]
            refine gw_call (by kernel_rfl) (some 61) rfl 12 #[.string s] (.bool t2) (fun w' => Below Y1.heap.size Y1 w') (by kernel_rfl) (C3.out Y1) (fun Y2 hY2 => ?_)
            simp only [pu1, pu2, pu3, pu4]
            refine gw_val (by kernel_rfl) (some 62) rfl (.string s) (by kernel_rfl) ?_
            simp only [pu1, pu2, pu3, pu4]
            refine gw_call (by kernel_rfl) (some 63) rfl 13 #[.string s] (.bool t2) (fun w' => Y2 = w') (by kernel_rfl) (C4.out Y2) (fun V9 hV9 => ?_)
            subst hV9
            simp only [pu1, pu2, pu3, pu4]
            refine gw_val (by kernel_rfl) (some 64) rfl (.bool false) (neq_b0 rfl t2 (by kernel_rfl) (by kernel_rfl) _) ?_
            simp only [pu1, pu2, pu3, pu4]
            refine gw_val (by kernel_rfl) (some 65) rfl (.bool false) (by kernel_rfl) ?_
            simp only [pu1, pu2, pu3, pu4]
            apply wpList_nil
            have HB9 := Lib.hid (HB1.out.trans ((hY1.trans (hY2.mono hY1.size)).mono HB1.out.size))
            clear hY1 hY2 C1 C2 C3 C4 HB1
            go_upto_region 13 with fail
            apply wp_region_lit
            refine gw_val (by kernel_rfl) (some 66) rfl (.int .i64 (j + 1 : Nat)) (add_one rfl j (by omega) (by kernel_rfl) _) ?_
            simp only [pu1, pu2, pu3, pu4]
            refine gw_val (by kernel_rfl) (some 50) rfl (.int .i64 (j + 1 : Nat)) (by kernel_rfl) ?_
            simp only [pu1, pu2, pu3, pu4]
            apply wpList_nil
            go_wp2_with fail
            go_roundg (gk - 1)
            case measure => have := HG.out; omega
            case rel => exact ⟨j + 1, rfl, HG.out.2.2, HB9, HG.out.1⟩
          · skip
            have HBZ := Lib.hid (HBV.out.trans (HB1.out.mono HBV.out.size))
            clear hg
            go_upto_region 9 with fail
            apply wp_region_lit
            refine gw_val (by kernel_rfl) (some 51) rfl (.bool false) (lss_n rfl (j) (9) (decide_eq_false (by omega)) (by kernel_rfl) (by kernel_rfl) _) ?_
            simp only [pu1, pu2, pu3, pu4]
            apply wpList_nil
            go_upto_region 14 with fail
            apply wp_region_lit
            refine gw_call (by kernel_rfl) (some 67) rfl 9 #[] (.bool true) (fun w' => Below w.heap.size w w') (by kernel_rfl) (HK.out wr (HBZ.out)) (fun V9 hV9 => ?_)
            simp only [pu1, pu2, pu3, pu4]
            refine gw_val (by kernel_rfl) (some 6) rfl (.bool true) (by kernel_rfl) ?_
            simp only [pu1, pu2, pu3, pu4]
            apply wpList_nil
            have HE := Lib.hid hV9
            clear hV9
            go_wp2_with fail
            go_ret
            exact ⟨rfl, HE.out⟩
end Go.Proofs.Ytaaeepanelmgnaa
