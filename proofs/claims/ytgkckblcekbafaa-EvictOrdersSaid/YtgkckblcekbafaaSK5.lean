/-
  A Digest in memory: its cells; the contracts of New, Len, and of what a nil receiver does. And what it stands for: a message.
-/
import Derived.Test.YtgkckblcekbafaaSK4
import Derived.Laws.CopyOwn
namespace Go.Proofs.Ytgkckblcekbafaa
set_option maxRecDepth 100000
open Go.RowKit

/-- The cells of a Digest. -/
def digs (H Bl : List Int) (n : Nat) : List Value := H.map (Value.int .u32) ++ (Bl.map (Value.int .u8) ++ [.int .i64 n])
theorem digs_len (H Bl : List Int) (n : Nat) (hH : H.length = 8) (hB : Bl.length = 64) : (digs H Bl n).length = 73 := by simp [digs, hH, hB]
def z64 : List Int := List.replicate 64 0
theorem But.drewN {g : Nat} {w w' : World} (h : But g w w') (n : Nat) : But g w (w'.drewN n) := ⟨Below.drewN' h.1 n, h.2⟩
/-- A slice does not lie in block g. -/
def Off (a : Option Addr) (g : Nat) : Prop := ∀ x, a = some x → x.block ≠ g
theorem Off.from {a : Option Addr} {g c k : Nat} (h : Off a g) : Off (fromA a c k) g := by
  intro x hx
  unfold fromA at hx
  split at hx
  · exact h x hx
  · obtain ⟨y, hy, rfl⟩ := Option.map_eq_some_iff.1 hx
    exact fun e => h y hy (by rw [← e]; simp only [Addr.add]; split <;> rfl)
theorem But.sl {g : Nat} {w w' : World} {a : Option Addr} {c : Nat} {L : List Int} (h : But g w w') (hs : Sl w a c L) (ho : Off a g) : Sl w' a c L := by
  rcases hs with hn | ⟨x, rfl, hx⟩
  · exact .inl hn
  · refine .inr ⟨x, rfl, fun k hk => ?_⟩
    obtain ⟨b, off, rfl, hc⟩ := hx k hk
    refine ⟨b, off, rfl, ?_⟩
    have hb : b < w.heap.size := by
      by_cases hb : b < w.heap.size
      · exact hb
      · rw [World.cell?] at hc
        simp [Array.getElem?_eq_none (show w.heap.size ≤ b by omega)] at hc
    rw [← hc]
    unfold World.cell?
    rw [h.2 b hb (ho _ rfl)]

theorem states_app (M X : List Int) : ∀ k, 64 * k ≤ M.length → states (M ++ X) k = states M k := by
  intro k
  induction k with
  | zero => intro _; rfl
  | succ k ih =>
    intro h
    simp only [states]
    rw [ih (by omega)]
    congr 1
    rw [List.drop_append_of_le_length (by omega), List.take_append_of_le_length (by simp; omega)]

/-- A part fills the block. -/
theorem step_full (M X H Bl : List Int) (hH : H = states M (M.length / 64)) (hB : Bl.length = 64) (ht : Bl.take (M.length % 64) = M.drop (64 * (M.length / 64))) (hx : M.length % 64 + X.length = 64) :
    blk H (Bl.take (M.length % 64) ++ (X ++ Bl.drop (M.length % 64 + X.length))) = states (M ++ X) ((M ++ X).length / 64) ∧ (M ++ X).length % 64 = 0 ∧ (M ++ X).drop (64 * ((M ++ X).length / 64)) = [] := by
  have hl : (M ++ X).length = 64 * (M.length / 64 + 1) := by simp; omega
  have hq : (M ++ X).length / 64 = M.length / 64 + 1 := by omega
  refine ⟨?_, by omega, ?_⟩
  · rw [hq]
    simp only [states]
    rw [states_app M X _ (by omega), ← hH]
    congr 1
    have h1 : Bl.drop (M.length % 64 + X.length) = [] := List.drop_eq_nil_of_le (by omega)
    rw [h1, List.append_nil, ht, List.drop_append_of_le_length (by omega)]
    rw [List.take_of_length_le]
    simp
    omega
  · rw [hq, ← hl]
    exact List.drop_length
/-- A part does not fill the block. -/
theorem step_part (M X H Bl : List Int) (hH : H = states M (M.length / 64)) (ht : Bl.take (M.length % 64) = M.drop (64 * (M.length / 64))) (hx : M.length % 64 + X.length < 64) :
    H = states (M ++ X) ((M ++ X).length / 64) ∧ (Bl.take (M.length % 64) ++ (X ++ Bl.drop (M.length % 64 + X.length))).take ((M ++ X).length % 64) = (M ++ X).drop (64 * ((M ++ X).length / 64)) := by
  have hl : (M ++ X).length = M.length + X.length := by simp
  have hq : (M ++ X).length / 64 = M.length / 64 := by omega
  have hr : (M ++ X).length % 64 = M.length % 64 + X.length := by omega
  refine ⟨?_, ?_⟩
  · rw [hq, states_app M X _ (by omega), hH]
  · rw [hq, hr, ht, List.drop_append_of_le_length (by omega), ← List.append_assoc]
    apply List.take_left'
    simp
    omega
end Go.Proofs.Ytgkckblcekbafaa
