/-
 A string as a list of numbers. (Out of stage 5's texts.)
-/
import Derived.Laws.BytesArg
import Derived.Test.YtplfineaomneiaaDoorGS
import Derived.WalkKit
namespace Go.Proofs.YtplfineaomneiaaDoor
open Go.RowKit

/-- A byte. -/
def W8 (x : Int) : Prop := 0 ≤ x ∧ x ≤ 255
def nums (s : ByteArray) : List Int := s.data.toList.map fun x => (x.toNat : Int)
theorem nums_len (s : ByteArray) : (nums s).length = s.size := by
 unfold nums
 rw [List.length_map, Array.length_toList]
 rfl
theorem nums_at (s : ByteArray) (i : Nat) (h : i < s.size) : (nums s).getD i 0 = ((s[i]'h).toNat : Int) := by
 have h2 : i < s.data.toList.length := by rw [Array.length_toList]; exact h
 unfold nums
 rw [getD_lt _ i 0 (by simpa using h2), List.getElem_map]
 rfl
theorem nums_byte (s : ByteArray) : ∀ x, x ∈ nums s → W8 x := by
 intro x hx
 obtain ⟨b, -, rfl⟩ := List.mem_map.1 hx
 have := b.toNat_lt
 exact ⟨by omega, by omega⟩
theorem nums_str (L : List Int) (h : ∀ x, x ∈ L → W8 x) : nums (strOfNums L) = L := by
 unfold nums
 rw [strOfNums_data, List.map_map]
 conv => rhs; rw [← List.map_id L]
 apply List.map_congr_left
 intro x hx
 obtain ⟨h0, h1⟩ := h x hx
 simp
 omega
theorem str_nums (s : ByteArray) : strOfNums (nums s) = s := by
 apply ByteArray.ext
 apply Array.toList_inj.1
 rw [strOfNums_data, nums, List.map_map]
 conv => rhs; rw [← List.map_id s.data.toList]
 apply List.map_congr_left
 intro x _
 simp
theorem str_index (s : ByteArray) (i : Nat) (h : i < s.size) (w : World) : (Instr.index 9 (.string s) (.int .i64 (i : Int))).run Tryd.prog w = .ok (.int .u8 ((nums s).getD i 0)) w := by
 have hc : 0 ≤ (i : Int) ∧ (i : Int) < s.size := by omega
 rw [run_index_string _ _ _ _ _ Tryd.underlying9, dif_pos hc, nums_at s i h]
 rfl
end Go.Proofs.YtplfineaomneiaaDoor
