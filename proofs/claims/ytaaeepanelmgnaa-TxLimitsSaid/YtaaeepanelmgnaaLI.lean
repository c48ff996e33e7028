/-
  The transactions of TxLimits: their first error, their length; a slice of zeros.
-/
import Derived.Test.YtaaeepanelmgnaaWD
import Derived.Laws.OwnMore
namespace Go.Proofs.Ytaaeepanelmgnaa
open Go.RowKit
set_option linter.unusedSimpArgs false
set_option linter.unusedVariables false

def facS : ByteArray := ⟨#[240, 159, 152, 128]⟩
def facL : List Int := [240, 159, 152, 128]
def reps : Nat → ByteArray
  | 0 => mtS
  | i + 1 => reps i ++ facS
theorem facS_size : facS.size = 4 := rfl
theorem reps_size : ∀ i, (reps i).size = 4 * i
  | 0 => rfl
  | i + 1 => by
    show (reps i ++ facS).size = _
    rw [app_size, reps_size i, facS_size]
    omega
theorem nums_app (a b : ByteArray) : nums (a ++ b) = nums a ++ nums b := by
  unfold nums
  rw [ByteArray.data_append, Array.toList_append, List.map_append]
theorem nums_fac : nums facS = facL := by decide +kernel
theorem reps_get : ∀ i j r, j < i → r < 4 → (nums (reps i)).getD (4 * j + r) 0 = facL.getD r 0
  | 0, j, r, h, _ => by omega
  | i + 1, j, r, h, hr => by
    have hl : (nums (reps i)).length = 4 * i := by rw [nums_len, reps_size]
    show (nums (reps i ++ facS)).getD (4 * j + r) 0 = _
    rw [nums_app, nums_fac]
    by_cases hj : j < i
    · rw [← reps_get i j r hj hr, List.getD_eq_getElem?_getD, List.getElem?_append_left (by omega), ← List.getD_eq_getElem?_getD]
    · obtain rfl : j = i := by omega
      rw [List.getD_eq_getElem?_getD, List.getElem?_append_right (by omega), hl, Nat.add_sub_cancel_left, ← List.getD_eq_getElem?_getD]
theorem reps_runK (i j : Nat) (h : j < i) : runK (nums (reps i)) (4 * j) = 4 := by
  have hl : (nums (reps i)).length = 4 * i := by rw [nums_len, reps_size]
  have h0 := reps_get i j 0 h (by decide)
  have h1 := reps_get i j 1 h (by decide)
  have h2 := reps_get i j 2 h (by decide)
  have h3 := reps_get i j 3 h (by decide)
  have f1 : fol (nums (reps i)) (4 * j + 1) = true := by
    unfold fol
    rw [h1, hl, decide_eq_true (show 4 * j + 1 < 4 * i by omega)]
    decide
  have f2 : fol (nums (reps i)) (4 * j + 2) = true := by
    unfold fol
    rw [h2, hl, decide_eq_true (show 4 * j + 2 < 4 * i by omega)]
    decide
  have f3 : fol (nums (reps i)) (4 * j + 3) = true := by
    unfold fol
    rw [h3, hl, decide_eq_true (show 4 * j + 3 < 4 * i by omega)]
    decide
  unfold runK
  rw [Nat.add_zero] at h0
  rw [h0, h1, f1, f2, f3]
  decide
theorem reps_runs : ∀ n i j, j + n = i → runs (nums (reps i)) (4 * j) = some n
  | 0, i, j, h => runs_end (by rw [nums_len, reps_size]; omega)
  | n + 1, i, j, h => by
    have hk := reps_runK i j (by omega)
    rw [runs_step (by rw [nums_len, reps_size]; omega) (by rw [hk]; decide), hk, show 4 * j + 4 = 4 * (j + 1) by omega, reps_runs n i (j + 1) (by omega)]
    rfl
theorem reps_memo (i : Nat) : isMemo (nums (reps i)) = decide (i ≤ 64) := by
  have h := reps_runs i i 0 (by omega)
  unfold isMemo
  rw [Nat.mul_zero] at h
  rw [h]
def two63 : Int := 9223372036854775808
def limX (j k : Nat) : Txd := ⟨annS, 0, 1, 0, reps j, List.replicate k (bobS, two63)⟩
theorem lim_valT : ∀ k, valT (List.replicate k (bobS, two63)) = 0
  | 0 => rfl
  | k + 1 => by
    rw [List.replicate_succ]
    unfold valT
    rw [if_neg (by rw [k_bob]; decide), if_neg (by decide), lim_valT k]
theorem lim_val (j k : Nat) (h : 1 ≤ k) : valX (limX j k) = if 64 < j then 11 else if 16 < k then 3 else 0 := by
  unfold valX limX
  simp only [k_ann, reps_memo, List.length_replicate, lim_valT]
  by_cases hj : 64 < j
  · rw [if_pos hj, if_neg (by decide), if_neg (by decide), if_pos (decide_eq_false (by omega))]
  · rw [if_neg hj, if_neg (by decide), if_neg (by decide), if_neg (by rw [decide_eq_true (show j ≤ 64 by omega)]; decide)]
    by_cases hk : 16 < k
    · rw [if_pos (.inr hk), if_pos hk]
    · rw [if_neg (by omega), if_neg hk]
theorem lim_trW : ∀ k, trW (List.replicate k (bobS, two63)) = 63 * k
  | 0 => rfl
  | k + 1 => by
    rw [List.replicate_succ]
    unfold trW
    rw [lim_trW k]
    show 60 + 3 + 63 * k = _
    omega
theorem lim_len (j k : Nat) (hj : j ≤ 65) (hk : k ≤ 17) : (form (limX j k)).length ≤ 4096 := by
  have h := (form_len (limX j k)).1
  have e : wtX (limX j k) = 100 + 3 + 4 * j + 63 * k := by
    show 100 + 3 + (reps j).size + trW (List.replicate k (bobS, two63)) = _
    rw [reps_size, lim_trW]
  omega
theorem lim_enc (j k : Nat) (hj : j ≤ 65) (h1 : 1 ≤ k) (hk : k ≤ 17) : decide ((encX (limX j k)).2 = 0) = (decide (k < 17) && decide (j < 65)) := by
  have hv := lim_val j k h1
  have hl := lim_len j k hj hk
  unfold encX
  rw [if_neg (show ¬ 4096 < (form (limX j k)).length by omega), hv]
  by_cases a : 64 < j
  · rw [if_pos a, if_pos (by decide), decide_eq_false (show ¬ j < 65 by omega), Bool.and_false]
    rfl
  · rw [if_neg a]
    by_cases b : 16 < k
    · rw [if_pos b, if_pos (by decide), decide_eq_false (show ¬ k < 17 by omega)]
      rfl
    · rw [if_neg b, if_neg (by decide), decide_eq_true (show k < 17 by omega), decide_eq_true (show j < 65 by omega)]
      rfl
theorem lim_b (j k : Nat) (hj : j ≤ 65) : TxB (limX j k) := ⟨k_w 0 (by decide), k_w 1 (by decide), k_w 0 (by decide), fun x hx => by
  have e : x = (bobS, two63) := List.eq_of_mem_replicate hx
  rw [e]; exact ⟨by decide, by decide⟩, by show 3 ≤ _; decide, by show (reps j).size ≤ _; rw [reps_size]; omega, fun x hx => by
  have e : x = (bobS, two63) := List.eq_of_mem_replicate hx
  rw [e]; show 3 ≤ _; decide⟩
/-- The bytes of an encoding are bytes. -/
theorem enc_w8 (t : Txd) (h : TxB t) : ∀ x, x ∈ (encX t).1 → W8 x := fun x hx => by
  unfold encX at hx
  by_cases hv : valX t = 0
  · rw [if_neg (by rw [hv]; decide)] at hx
    split at hx
    · cases hx
    · exact msg_bytes (val_ok hv h.sq h.gas h.fee h.am).1.vf x hx
  · rw [if_pos hv] at hx
    cases hx
theorem infoU8 : (Try.prog.info? 5).map (fun i => (i.zero, i.size, i.bytes)) = some (some (.int .u8 0), 1, 1) := by kernel_rfl
theorem make_bytes (w : World) (n : Nat) (hn : n ≤ 100000) : ∃ w1, (Instr.makeSlice 39 (.int .i64 (n : Int)) (.int .i64 (n : Int))).run Try.prog w = .ok (.slice (some ⟨w.heap.size, 0, none⟩) (List.replicate n (0 : Int)).length n) w1 ∧ Sl w1 (some ⟨w.heap.size, 0, none⟩) n (List.replicate n 0) ∧ Below w.heap.size w w1 := by
  obtain ⟨i0, hi, hz0, hz1, hz2⟩ := info_parts infoU8
  obtain ⟨w1, hr, hO, hg⟩ := run_makeSlice_full (P := Try.prog) w w.heap.size 39 5 i0 _ 1 Try.underlying39 hi hz0 hz1 .i64 .i64 n (by omega) (by rw [hz2]; omega) (by unfold maxLen; omega) (Nat.le_refl _)
  have hO2 : Own w1 w.heap.size (.slice (some ⟨w.heap.size, 0, none⟩) n n) (List.replicate n 0) := by
    have e : (madeCells (Value.int .u8 0).cells (n * 1)).toList = (List.replicate n (0 : Int)).map (Value.int .u8) := by
      rw [Nat.mul_one]
      show (madeCells #[Value.int .u8 0] n).toList = _
      rw [toList_madeCells_one, List.map_replicate]
    unfold Own
    rw [← e, List.length_replicate]
    exact hO
  obtain ⟨a, c, e1, h1, h2⟩ := hO2.sl
  simp only [Value.slice.injEq] at e1
  obtain ⟨rfl, -, rfl⟩ := e1
  exact ⟨w1, by rw [hr, List.length_replicate], h1, hg.os, hg.tape, hg.output, hg.size, fun k hk => hg.block k hk (by simp)⟩
theorem gw_make {P : Program} {ops : Array Oper} {rest : List Oper} {o : Oper} {a : Act} {w : World} {Q : Exit → Act → World → Prop} (hw : Region.wanted o (yielded ops a.tmps) = true) (d : Option Tmp) (hd : o.dst = d) (t : TypeId) (x y : Operand) (ho : o.op = .makeSlice t x y)
    (vx vy v : Value) (hx : a.eval x = vx) (hy : a.eval y = vy) (w2 : World) (hr : (Instr.makeSlice t vx vy).run P w = .ok v w2) (k : wpList P ops Q rest (a.put d v) w2) : wpList P ops Q (o :: rest) a w := by
  refine gw_new hw d hd v w2 ?_ k
  unfold execOp
  simp only [ho, hx, hy, Sem.run_bind, hr]
  rfl
theorem lim_zero : (⟨annS, 0, 1, 0, mtS, []⟩ : Txd) = limX 0 0 := rfl
theorem lim_more (k : Nat) : List.replicate k (bobS, two63) ++ [(bobS, two63)] = List.replicate (k + 1) (bobS, two63) := by rw [List.replicate_succ']
theorem mod3 (a : Nat) (h : a ≤ 255) : ∃ r : Nat, a % 3 = r ∧ r ≤ 2 := ⟨a % 3, rfl, by omega⟩
end Go.Proofs.Ytaaeepanelmgnaa
