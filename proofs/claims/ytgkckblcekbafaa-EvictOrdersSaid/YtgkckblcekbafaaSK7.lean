/-
  The contract of the method Sum.
-/
import Derived.Test.YtgkckblcekbafaaSK6
namespace Go.Proofs.Ytgkckblcekbafaa
set_option maxRecDepth 100000
open Go.RowKit

theorem one_w8s (L : List Int) : (w8s L).all (·.oneCell') = true := all_oneCell_toArray fun v hv => by
  obtain ⟨x, -, rfl⟩ := List.mem_map.1 hv
  rfl
theorem one_digs (H Bl : List Int) (n : Nat) : (digs H Bl n).toArray.all (·.oneCell') = true := all_oneCell_toArray fun v hv => by
  simp only [digs, List.mem_append, List.mem_map, List.mem_singleton] at hv
  rcases hv with ⟨x, -, rfl⟩ | ⟨x, -, rfl⟩ | rfl <;> rfl
theorem Ab.sl {w : World} {g t m : Nat} {L : List Int} (h : Ab w g t L) : Sl w (some ⟨g, 0, none⟩) m L :=
  .inr ⟨_, rfl, fun k hk => ⟨g, 0, rfl, by rw [Nat.zero_add]; exact h.cell k hk⟩⟩
theorem z64_len : z64.length = 64 := rfl

theorem outs_set (h : List Int) (k : Nat) (hk : k < 32) : (outs h k ++ List.replicate (32 - k) 0).set k (outByte h k) = outs h (k + 1) ++ List.replicate (32 - (k + 1)) 0 := by
  have := fill_next (outs h k) (outByte h k) (32 - k) (32 - (k + 1)) (by omega)
  rw [outs_len] at this
  rw [this, outs]

theorem states_bytes_pad (n : Nat) : ∀ x, x ∈ pad n → W8 x := by
  intro x hx
  simp only [pad, List.mem_append, List.mem_replicate, lenBytes, List.mem_cons, List.not_mem_nil, or_false] at hx
  unfold W8
  omega

end Go.Proofs.Ytgkckblcekbafaa
