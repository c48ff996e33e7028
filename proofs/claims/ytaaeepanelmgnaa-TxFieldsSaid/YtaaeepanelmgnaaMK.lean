/-
  The numbers that the statements draw from; mempoolmake's Name and Memo: contracts.
-/
import Derived.Test.YtaaeepanelmgnaaWD
namespace Go.Proofs.Ytaaeepanelmgnaa
open Go.RowKit
set_option linter.unusedSimpArgs false
set_option linter.unusedVariables false

/-- The numbers: at most k were used. -/
def NS (w : World) (g : Nat) (a : Option Addr) (c : Nat) (L : List Int) (k : Nat) : Prop := ∃ N : Nat, N ≤ k ∧ Bx w g #[.slice a L.length c, .int .i64 N] 83 ∧ Cs w a (icells L) ∧ (L ≠ [] → ∀ x, a = some x → x.block ≠ g)
theorem NS.below {w w' : World} {g c k : Nat} {a : Option Addr} {L : List Int} (h : NS w g a c L k) (hb : Below w.heap.size w w') : NS w' g a c L k := by
  obtain ⟨N, h1, h2, h3, h4⟩ := h
  exact ⟨N, h1, h2.below h2.lt hb, h3.below hb, h4⟩
theorem cs_but0 {w w' : World} {g : Nat} {a : Option Addr} {L : List Int} (h : Cs w a (icells L)) (hb : But g w w') (hn : L ≠ [] → ∀ x, a = some x → x.block ≠ g) : Cs w' a (icells L) := by
  cases L with
  | nil => exact Cs.nil _ _
  | cons x r => exact h.but hb (hn (by simp))
theorem NS.but {w w' : World} {g q c k : Nat} {a : Option Addr} {L : List Int} (h : NS w g a c L k) (hb : But q w w') (hq : g < q) (ha : L ≠ [] → ∀ x, a = some x → x.block < q) : NS w' g a c L k := by
  obtain ⟨N, h1, h2, h3, h4⟩ := h
  exact ⟨N, h1, h2.but hb (by omega), cs_but0 h3 hb (fun h5 x hx => by have := ha h5 x hx; omega), h4⟩
theorem NS.mono {w : World} {g c k k2 : Nat} {a : Option Addr} {L : List Int} (h : NS w g a c L k) (hk : k ≤ k2) : NS w g a c L k2 := by
  obtain ⟨N, h1, h2⟩ := h
  exact ⟨N, Nat.le_trans h1 hk, h2⟩
theorem NS.lt {w : World} {g c k : Nat} {a : Option Addr} {L : List Int} (h : NS w g a c L k) : g < w.heap.size := by
  obtain ⟨N, -, h2, -⟩ := h
  exact h2.lt
/-- One number more. -/
def NxO (w : World) (g : Nat) (a : Option Addr) (c : Nat) (L : List Int) (k : Nat) (n : Int) (e : Ending) (w' : World) : Prop := ∃ v : Nat, e = .returned (.int .i64 v) ∧ (v : Int) < n ∧ NS w' g a c L (k + 1) ∧ But g w w'
theorem ns_next {w : World} {g c k : Nat} {a : Option Addr} {L : List Int} (h : NS w g a c L k) (hl : L.length ≤ 100000) (hk : k ≤ 100000) (n : Int) (hn : 0 < n) (hn2 : n ≤ 1000000) : Calls Try.prog 34 #[.pointer (some ⟨g, 0, none⟩), .int .i64 n] w (NxO w g a c L k n) := by
  obtain ⟨N, h1, h2, h3, h4⟩ := h
  refine (mk_next g L a c N n w h2 h3 hl (by omega) hn hn2).mono fun e w' q => ?_
  obtain ⟨q1, q2, q3⟩ := q
  have hp := pl_range (L.getD N 0) n hn
  refine ⟨(pl (L.getD N 0) n).toNat, by rw [q1]; congr 2; omega, by omega, ⟨N + 1, by omega, q3, cs_but0 h3 q2 h4, h4⟩, q2⟩
/-- A string drawn from some. -/
def DrO (w : World) (g : Nat) (a : Option Addr) (c : Nat) (L : List Int) (k : Nat) (Q : ByteArray → Prop) (e : Ending) (w' : World) : Prop := ∃ s, e = .returned (.string s) ∧ Q s ∧ NS w' g a c L (k + 1) ∧ But g w w'
def nms : List ByteArray := [⟨#[97, 110, 110]⟩, ⟨#[98, 111, 98]⟩, ⟨#[101, 118, 101]⟩, ⟨#[122, 111, 101]⟩, ⟨#[110, 101, 119]⟩, ⟨#[120, 45, 49]⟩]
def mms : List ByteArray := [⟨#[]⟩, ⟨#[]⟩, ⟨#[]⟩, ⟨#[114, 101, 110, 116]⟩, ⟨#[195, 169, 228, 184, 150]⟩, ⟨#[97, 10, 98]⟩, ⟨#[116, 104, 97, 110, 107, 115, 32, 102, 111, 114, 32, 97, 108, 108, 32, 116, 104, 101, 32, 102, 105, 115, 104, 44, 32, 97, 110, 100, 32, 102, 111, 114, 32, 116, 104, 101, 32, 99, 104, 105, 112, 115]⟩]
def NmQ (s : ByteArray) : Prop := isName (nums s) = true ∧ s.size ≤ 20
def MmQ (s : ByteArray) : Prop := isMemo (nums s) = true ∧ s.size ≤ 60
theorem nms_ok (k : Nat) (h : k < 6) : NmQ (nms.getD k mtS) := by
  rcases (show k = 0 ∨ k = 1 ∨ k = 2 ∨ k = 3 ∨ k = 4 ∨ k = 5 by omega) with rfl | rfl | rfl | rfl | rfl | rfl <;> exact ⟨by decide +kernel, by decide⟩
theorem runs_ascii {L : List Int} (h : ∀ j, L.getD j 0 < 128) : ∀ (n i : Nat), L.length - i = n → i ≤ L.length → runs L i = some n
  | 0, i, h1, h2 => runs_end (by omega)
  | n + 1, i, h1, h2 => by
    have hk : runK L i = 1 := by unfold runK runN; rw [if_pos (h i)]
    rw [runs_step (by omega) (by rw [hk]; decide), hk, runs_ascii h n (i + 1) (by omega) (by omega)]
    rfl
theorem asc_memo {s : ByteArray} (h : (nums s).all (fun x => decide (x < 128)) = true) (hl : s.size ≤ 64) : isMemo (nums s) = true := by
  refine memo_ok (runs_ascii (fun j => ?_) (nums s).length 0 (by omega) (by omega)) (by rw [nums_len]; exact hl)
  by_cases hj : j < (nums s).length
  · rw [getD_lt _ _ _ hj]
    have := List.all_eq_true.1 h _ (List.getElem_mem hj)
    simpa using this
  · rw [List.getD_eq_getElem?_getD, List.getElem?_eq_none (by omega)]
    decide
theorem two_memo : isMemo (nums (⟨#[195, 169, 228, 184, 150]⟩ : ByteArray)) = true := by
  have hl : (nums (⟨#[195, 169, 228, 184, 150]⟩ : ByteArray)).length = 5 := by decide +kernel
  have h0 : runK (nums (⟨#[195, 169, 228, 184, 150]⟩ : ByteArray)) 0 = 2 := by decide +kernel
  have h2 : runK (nums (⟨#[195, 169, 228, 184, 150]⟩ : ByteArray)) 2 = 3 := by decide +kernel
  have r : runs (nums (⟨#[195, 169, 228, 184, 150]⟩ : ByteArray)) 0 = some 2 := by
    rw [runs_step (by rw [hl]; decide) (by rw [h0]; decide), h0, runs_step (by rw [hl]; decide) (by rw [h2]; decide), h2, runs_end (by rw [hl]; decide)]
    rfl
  exact memo_ok r (by decide)
theorem mms_ok (k : Nat) (h : k < 7) : MmQ (mms.getD k mtS) := by
  rcases (show k = 0 ∨ k = 1 ∨ k = 2 ∨ k = 3 ∨ k = 4 ∨ k = 5 ∨ k = 6 by omega) with rfl | rfl | rfl | rfl | rfl | rfl | rfl
  · exact ⟨k_mt, by decide⟩
  · exact ⟨k_mt, by decide⟩
  · exact ⟨k_mt, by decide⟩
  · exact ⟨asc_memo (by decide +kernel) (by decide), by decide⟩
  · exact ⟨two_memo, by decide⟩
  · exact ⟨asc_memo (by decide +kernel) (by decide), by decide⟩
  · exact ⟨asc_memo (by decide +kernel) (by decide), by decide⟩
theorem build_nms (V : World) : (Instr.buildSlice 23 6 #[(0, .string ⟨#[97, 110, 110]⟩), (1, .string ⟨#[98, 111, 98]⟩), (2, .string ⟨#[101, 118, 101]⟩), (3, .string ⟨#[122, 111, 101]⟩), (4, .string ⟨#[110, 101, 119]⟩), (5, .string ⟨#[120, 45, 49]⟩)]).run Try.prog V = .ok (.slice (some ⟨V.heap.size, 0, none⟩) 6 6) (V.alloc (.cells (strs nms).toArray 9)) := by
  obtain ⟨i0, hi, hz0, hz1, hz2⟩ := info_parts infoSt
  refine run_buildSlice V 23 9 6 _ (strs nms).toArray i0 _ Try.underlying23 hi hz0 (by rw [hz1]; omega) (by rw [hz1]; omega) ?_
  rw [hz1]
  kernel_rfl
set_option maxRecDepth 100000 in
set_option maxHeartbeats 8000000 in
theorem mk_name {w : World} {g c k : Nat} {a : Option Addr} {L : List Int} (h : NS w g a c L k) (hl : L.length ≤ 100000) (hk : k ≤ 100000) : Calls Try.prog 44 #[.pointer (some ⟨g, 0, none⟩)] w (DrO w g a c L k NmQ) := by
  have hbd := build_nms w
  have hbx : Bx (w.alloc (.cells (strs nms).toArray 9)) w.heap.size (strs nms).toArray 9 := heap_alloc_last w _
  have hbw : Below w.heap.size w (w.alloc (.cells (strs nms).toArray 9)) := (Below.refl _ w).alloc (Nat.le_refl _) _
  have hgl := h.lt
  have hns := h.below hbw
  generalize w.alloc (.cells (strs nms).toArray 9) = V1 at *
  have CX := ns_next hns hl hk 6 (by decide) (by decide)
  have HOK := Lib.hid nms_ok
  have HLE : Hid (nms.length = 6) := Lib.hid rfl
  have HDO : Hid (∀ w' q, q < 6 → NS w' g a c L (k + 1) → But g w w' → DrO w g a c L k NmQ (.returned (.string (nms.getD q mtS))) w') := Lib.hid fun w' q hq h1 h2 => ⟨_, rfl, HOK.out q hq, h1, h2⟩
  generalize nms = S at *
  obtain ⟨g1, hg1⟩ : ∃ g1, w.heap.size = g1 := ⟨_, rfl⟩
  have HB := Lib.hid (But.of_below hbw (Nat.le_of_lt hgl))
  have HG : Hid (g < g1) := Lib.hid (by omega)
  rw [hg1] at hbx hbd
  clear hns hbw hgl hg1 h
  go_enter Try.func44, Try.ntmps44
  go_upto_region 1 with fail
  apply wp_region_lit
  refine gw_build (by kernel_rfl) (some 3) rfl 23 6 #[(0, .const (.string ⟨#[97, 110, 110]⟩)), (1, .const (.string ⟨#[98, 111, 98]⟩)), (2, .const (.string ⟨#[101, 118, 101]⟩)), (3, .const (.string ⟨#[122, 111, 101]⟩)), (4, .const (.string ⟨#[110, 101, 119]⟩)), (5, .const (.string ⟨#[120, 45, 49]⟩))] rfl #[(0, .string ⟨#[97, 110, 110]⟩), (1, .string ⟨#[98, 111, 98]⟩), (2, .string ⟨#[101, 118, 101]⟩), (3, .string ⟨#[122, 111, 101]⟩), (4, .string ⟨#[110, 101, 119]⟩), (5, .string ⟨#[120, 45, 49]⟩)] (by kernel_rfl) (.slice (some ⟨g1, 0, none⟩) 6 6) _ hbd ?_
  simp only [pu1, pu2, pu3, pu4]
  refine gw_val (by kernel_rfl) (some 4) rfl (.pointer (some ⟨g, 0, none⟩)) (by kernel_rfl) ?_
  simp only [pu1, pu2, pu3, pu4]
  refine gw_callE (by kernel_rfl) (some 5) rfl 34 #[.pointer (some ⟨g, 0, none⟩), .int .i64 6] (fun v w' => ∃ q : Nat, v = .int .i64 q ∧ (q : Int) < 6 ∧ NS w' g a c L (k + 1) ∧ But g V1 w') (by kernel_rfl) (CX.mono fun e w' z => by obtain ⟨q, h1, h2⟩ := z; exact ⟨_, h1, q, rfl, h2⟩) (fun v5 V2 hq => ?_)
  obtain ⟨q, rfl, hq1, hns2, hbut⟩ := hq
  have hq2 : q < 6 := by omega
  have hbx2 := hbx.but hbut (by have := HG.out; omega)
  simp only [pu1, pu2, pu3, pu4]
  refine gw_val (by kernel_rfl) (some 6) rfl (.pointer (some ⟨g1, 0 + q, none⟩)) (idx_str g1 0 6 6 q hq2 _ _ _ rfl (by kernel_rfl) (by kernel_rfl)) ?_
  simp only [pu1, pu2, pu3, pu4]
  refine gw_load (by kernel_rfl) (some 7) rfl 9 (.tmp 6) rfl ⟨g1, 0 + q, none⟩ (.string (S.getD q mtS)) (by kernel_rfl) (load_str hbx2 (k := q) (by rw [HLE.out]; exact hq2)) ?_
  simp only [pu1, pu2, pu3, pu4]
  refine gw_val (by kernel_rfl) (some 2) rfl (.string (S.getD q mtS)) (by kernel_rfl) ?_
  simp only [pu1, pu2, pu3, pu4]
  apply wpList_nil
  have HE := Lib.hid (HDO.out V2 q hq2 hns2 (HB.out.trans hbut))
  clear HDO hns2 hbut hbx2 hbx CX hbd
  go_wp2_with fail
  go_ret
  exact HE.out
theorem build_mms (V : World) : (Instr.buildSlice 23 7 #[(0, .string ⟨#[]⟩), (1, .string ⟨#[]⟩), (2, .string ⟨#[]⟩), (3, .string ⟨#[114, 101, 110, 116]⟩), (4, .string ⟨#[195, 169, 228, 184, 150]⟩), (5, .string ⟨#[97, 10, 98]⟩), (6, .string ⟨#[116, 104, 97, 110, 107, 115, 32, 102, 111, 114, 32, 97, 108, 108, 32, 116, 104, 101, 32, 102, 105, 115, 104, 44, 32, 97, 110, 100, 32, 102, 111, 114, 32, 116, 104, 101, 32, 99, 104, 105, 112, 115]⟩)]).run Try.prog V = .ok (.slice (some ⟨V.heap.size, 0, none⟩) 7 7) (V.alloc (.cells (strs mms).toArray 9)) := by
  obtain ⟨i0, hi, hz0, hz1, hz2⟩ := info_parts infoSt
  refine run_buildSlice V 23 9 7 _ (strs mms).toArray i0 _ Try.underlying23 hi hz0 (by rw [hz1]; omega) (by rw [hz1]; omega) ?_
  rw [hz1]
  kernel_rfl
set_option maxRecDepth 100000 in
set_option maxHeartbeats 8000000 in
theorem mk_memo {w : World} {g c k : Nat} {a : Option Addr} {L : List Int} (h : NS w g a c L k) (hl : L.length ≤ 100000) (hk : k ≤ 100000) : Calls Try.prog 45 #[.pointer (some ⟨g, 0, none⟩)] w (DrO w g a c L k MmQ) := by
  have hbd := build_mms w
  have hbx : Bx (w.alloc (.cells (strs mms).toArray 9)) w.heap.size (strs mms).toArray 9 := heap_alloc_last w _
  have hbw : Below w.heap.size w (w.alloc (.cells (strs mms).toArray 9)) := (Below.refl _ w).alloc (Nat.le_refl _) _
  have hgl := h.lt
  have hns := h.below hbw
  generalize w.alloc (.cells (strs mms).toArray 9) = V1 at *
  have CX := ns_next hns hl hk 7 (by decide) (by decide)
  have HOK := Lib.hid mms_ok
  have HLE : Hid (mms.length = 7) := Lib.hid rfl
  have HDO : Hid (∀ w' q, q < 7 → NS w' g a c L (k + 1) → But g w w' → DrO w g a c L k MmQ (.returned (.string (mms.getD q mtS))) w') := Lib.hid fun w' q hq h1 h2 => ⟨_, rfl, HOK.out q hq, h1, h2⟩
  generalize mms = S at *
  obtain ⟨g1, hg1⟩ : ∃ g1, w.heap.size = g1 := ⟨_, rfl⟩
  have HB := Lib.hid (But.of_below hbw (Nat.le_of_lt hgl))
  have HG : Hid (g < g1) := Lib.hid (by omega)
  rw [hg1] at hbx hbd
  clear hns hbw hgl hg1 h
  go_enter Try.func45, Try.ntmps45
  go_upto_region 1 with fail
  apply wp_region_lit
  refine gw_build (by kernel_rfl) (some 3) rfl 23 7 #[(0, .const (.string ⟨#[]⟩)), (1, .const (.string ⟨#[]⟩)), (2, .const (.string ⟨#[]⟩)), (3, .const (.string ⟨#[114, 101, 110, 116]⟩)), (4, .const (.string ⟨#[195, 169, 228, 184, 150]⟩)), (5, .const (.string ⟨#[97, 10, 98]⟩)), (6, .const (.string ⟨#[116, 104, 97, 110, 107, 115, 32, 102, 111, 114, 32, 97, 108, 108, 32, 116, 104, 101, 32, 102, 105, 115, 104, 44, 32, 97, 110, 100, 32, 102, 111, 114, 32, 116, 104, 101, 32, 99, 104, 105, 112, 115]⟩))] rfl #[(0, .string ⟨#[]⟩), (1, .string ⟨#[]⟩), (2, .string ⟨#[]⟩), (3, .string ⟨#[114, 101, 110, 116]⟩), (4, .string ⟨#[195, 169, 228, 184, 150]⟩), (5, .string ⟨#[97, 10, 98]⟩), (6, .string ⟨#[116, 104, 97, 110, 107, 115, 32, 102, 111, 114, 32, 97, 108, 108, 32, 116, 104, 101, 32, 102, 105, 115, 104, 44, 32, 97, 110, 100, 32, 102, 111, 114, 32, 116, 104, 101, 32, 99, 104, 105, 112, 115]⟩)] (by kernel_rfl) (.slice (some ⟨g1, 0, none⟩) 7 7) _ hbd ?_
  simp only [pu1, pu2, pu3, pu4]
  refine gw_val (by kernel_rfl) (some 4) rfl (.pointer (some ⟨g, 0, none⟩)) (by kernel_rfl) ?_
  simp only [pu1, pu2, pu3, pu4]
  refine gw_callE (by kernel_rfl) (some 5) rfl 34 #[.pointer (some ⟨g, 0, none⟩), .int .i64 7] (fun v w' => ∃ q : Nat, v = .int .i64 q ∧ (q : Int) < 7 ∧ NS w' g a c L (k + 1) ∧ But g V1 w') (by kernel_rfl) (CX.mono fun e w' z => by obtain ⟨q, h1, h2⟩ := z; exact ⟨_, h1, q, rfl, h2⟩) (fun v5 V2 hq => ?_)
  obtain ⟨q, rfl, hq1, hns2, hbut⟩ := hq
  have hq2 : q < 7 := by omega
  have hbx2 := hbx.but hbut (by have := HG.out; omega)
  simp only [pu1, pu2, pu3, pu4]
  refine gw_val (by kernel_rfl) (some 6) rfl (.pointer (some ⟨g1, 0 + q, none⟩)) (idx_str g1 0 7 7 q hq2 _ _ _ rfl (by kernel_rfl) (by kernel_rfl)) ?_
  simp only [pu1, pu2, pu3, pu4]
  refine gw_load (by kernel_rfl) (some 7) rfl 9 (.tmp 6) rfl ⟨g1, 0 + q, none⟩ (.string (S.getD q mtS)) (by kernel_rfl) (load_str hbx2 (k := q) (by rw [HLE.out]; exact hq2)) ?_
  simp only [pu1, pu2, pu3, pu4]
  refine gw_val (by kernel_rfl) (some 2) rfl (.string (S.getD q mtS)) (by kernel_rfl) ?_
  simp only [pu1, pu2, pu3, pu4]
  apply wpList_nil
  have HE := Lib.hid (HDO.out V2 q hq2 hns2 (HB.out.trans hbut))
  clear HDO hns2 hbut hbx2 hbx CX hbd
  go_wp2_with fail
  go_ret
  exact HE.out
end Go.Proofs.Ytaaeepanelmgnaa
