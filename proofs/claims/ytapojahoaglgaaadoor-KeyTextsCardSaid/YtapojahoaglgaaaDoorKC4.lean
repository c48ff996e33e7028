/-
  Strings as lists; what the two Parse functions share.
-/
import Derived.Test.YtapojahoaglgaaaDoorKC3
namespace Go.Proofs.YtapojahoaglgaaaDoor
open Go.RowKit

/-- The bytes of a string. -/
def nums (s : ByteArray) : List Int := s.data.toList.map fun x => (x.toNat : Int)
theorem nums_len (s : ByteArray) : (nums s).length = s.size := by
  unfold nums
  rw [List.length_map, Array.length_toList]
  rfl
theorem nums_at (s : ByteArray) (i : Nat) (h : i < s.size) : (nums s).getD i 0 = ((s[i]'h).toNat : Int) := by
  have h2 : i < s.data.toList.length := by rw [Array.length_toList]; exact h
  unfold nums
  rw [getD_lt _ i 0 (by simpa using h2), List.getElem_map]
  rfl
theorem nums_byte (s : ByteArray) : ∀ x, x ∈ nums s → W8 x := by
  intro x hx
  obtain ⟨b, -, rfl⟩ := List.mem_map.1 hx
  have := b.toNat_lt
  exact ⟨by omega, by omega⟩
theorem nums_str (L : List Int) (h : ∀ x, x ∈ L → W8 x) : nums (strOfNums L) = L := by
  unfold nums
  rw [strOfNums_data, List.map_map]
  conv => rhs; rw [← List.map_id L]
  apply List.map_congr_left
  intro x hx
  obtain ⟨h0, h1⟩ := h x hx
  simp
  omega
theorem str_nums (s : ByteArray) : strOfNums (nums s) = s := by
  apply ByteArray.ext
  apply Array.toList_inj.1
  rw [strOfNums_data, nums, List.map_map]
  conv => rhs; rw [← List.map_id s.data.toList]
  apply List.map_congr_left
  intro x _
  simp
theorem str_index (s : ByteArray) (i : Nat) (h : i < s.size) (w : World) : (Instr.index 9 (.string s) (.int .i64 (i : Int))).run Tryd.prog w = .ok (.int .u8 ((nums s).getD i 0)) w := by
  have hc : 0 ≤ (i : Int) ∧ (i : Int) < s.size := by omega
  rw [run_index_string _ _ _ _ _ Tryd.underlying9, dif_pos hc, nums_at s i h]
  rfl
/-- An index yields v. -/
theorem wpQ_index {P : Program} {C : World → Prop} {ops : Array Oper} {Q : Act → Prop} {a : Act} {op : Oper} {rest : List Oper} (hgd : op.guard = none) (ty : TypeId) (x i : Operand) (ho : op.op = .index ty x i)
    (vx vi v : Value) (hx : a.eval x = vx) (hi : a.eval i = vi) (hs : ∀ w, C w → (Instr.index ty vx vi).run P w = .ok v w)
    (hK : wpQuiet P ops C Q rest (a.put op.dst v)) : wpQuiet P ops C Q (op :: rest) a := by
  refine wpQ_val hgd v (fun w hC => ?_) hK
  unfold execOp
  simp only [ho, hx, hi, Sem.run_bind, hs w hC]
  rfl
/-- The results: a key in memory, and an error. -/
theorem results_key {P : Program} {fn : Func} {tmps : Array Value} {w : World} {g t : Nat} {v : Value} {K : List Int} {e : Nat} (hr : fn.results = #[.cell 2 25, .tmp 3]) (h2 : tmps.getD 2 undef = .pointer (some ⟨g, 0, none⟩)) (h3 : tmps.getD 3 undef = v)
    (hA : Ab w g t K) (hu : P.underlying 25 = some (.array 32 e)) (hi : (P.info? 25).map (·.size) = some K.length) : (results fn tmps).run P w = .ok (.tuple #[.agg (w8s K), v]) w := by
  have hl := run_loadVar_row (P := P) w g t 25 (w8s K) (0, 0) (.array 32 e) hA hu rfl (by rw [hi]; simp)
  unfold results
  rw [hr]
  have h2' : tmps[2]?.getD undef = .pointer (some ⟨g, 0, none⟩) := by simpa using h2
  have h3' : tmps[3]?.getD undef = v := by simpa using h3
  simp [h2', h3', asAddr, hl, Result.andThen]
end Go.Proofs.YtapojahoaglgaaaDoor
