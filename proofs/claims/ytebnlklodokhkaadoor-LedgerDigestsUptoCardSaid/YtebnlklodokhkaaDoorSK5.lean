/-
  A Digest in memory: its cells; the contracts of New, Len, and of what a nil receiver does. And what it stands for: a message.
-/
import Derived.Test.YtebnlklodokhkaaDoorSK4
import Derived.Laws.CopyOwn
namespace Go.Proofs.YtebnlklodokhkaaDoor
set_option maxRecDepth 100000
open Go.RowKit

/-- The cells of a Digest. -/
def digs (H Bl : List Int) (n : Nat) : List Value := H.map (Value.int .u32) ++ (Bl.map (Value.int .u8) ++ [.int .i64 n])
/-- A Digest lies in a block. -/
def Dig (w : World) (g : Nat) (H Bl : List Int) (n : Nat) : Prop := w.heap[g]? = some (.cells (digs H Bl n).toArray 103 (0, 0))

theorem digs_len (H Bl : List Int) (n : Nat) (hH : H.length = 8) (hB : Bl.length = 64) : (digs H Bl n).length = 73 := by simp [digs, hH, hB]
theorem Dig.lt {w : World} {g : Nat} {H Bl : List Int} {n : Nat} (h : Dig w g H Bl n) : g < w.heap.size := (Array.getElem?_eq_some_iff.1 h).1
theorem Dig.length {w : World} {g : Nat} {H Bl : List Int} {n : Nat} (h : Dig w g H Bl n) (hH : H.length = 8) (hB : Bl.length = 64) : w.cell? ⟨g, 72, none⟩ = some (.int .i64 n) := by
  rw [cell_of_row w g 72 _ 103 (0, 0) h]
  simp only [digs, List.getElem?_toArray]
  rw [List.getElem?_append_right (by simp [hH]), List.getElem?_append_right (by simp [hH, hB])]
  simp [hH, hB]
theorem Dig.frozen {w : World} {g : Nat} {H Bl : List Int} {n : Nat} (h : Dig w g H Bl n) (i : Nat) : w.frozen? ⟨g, i, none⟩ = false := frozen_of_row w g i _ 103 h
theorem Dig.setlen {w : World} {g : Nat} {H Bl : List Int} {n : Nat} (h : Dig w g H Bl n) (hH : H.length = 8) (hB : Bl.length = 64) (m : Nat) : Dig (w.setCell ⟨g, 72, none⟩ (.int .i64 m)) g H Bl m := by
  unfold Dig
  rw [Joins.block_setCell h]
  congr 2
  simp only [digs]
  rw [← List.append_assoc, ← List.append_assoc, List.setIfInBounds_toArray, List.set_append_right _ _ (by simp [hH, hB])]
  simp [hH, hB]
theorem Dig.below {w w' : World} {g B : Nat} {H Bl : List Int} {n : Nat} (h : Dig w g H Bl n) (hg : g < B) (hb : Below B w w') : Dig w' g H Bl n := by
  unfold Dig
  rw [hb.block g hg]
  exact h

def z64 : List Int := List.replicate 64 0
set_option maxRecDepth 100000 in
set_option maxHeartbeats 2000000 in
theorem new_any (w : World) (hG : Glob w) :
    Calls Tryd.prog 58 #[] w fun e w' => e = .returned (.pointer (some ⟨w.heap.size, 0, none⟩)) ∧ w' = w.alloc (.cells (digs h0s z64 0).toArray 103) := by
  obtain ⟨⟨t, fr, h0⟩, _⟩ := hG
  go_enter Tryd.func58, Tryd.ntmps58
  go_upto_region 1 with fail
  apply wp_region_lit
  apply wpList_load_row (ty := 95) (x := .global 0) (g := 0) (t := t) (cs := w32s h0s) (fr := fr) (d := .array 8 94)
  case hgd => rfl
  case ho => rfl
  case hx => rfl
  case hg => exact h0
  case hu => kernel_rfl
  case hd => rfl
  case hi => kernel_rfl
  refine run_to rfl (some 2) rfl (.agg (digs h0s z64 0).toArray) w (by kernel_rfl) ?_
  refine run_to rfl (some 3) rfl (.pointer (some ⟨w.heap.size, 0, none⟩)) (w.alloc (.cells (digs h0s z64 0).toArray 103)) (by kernel_rfl) ?_
  go_wp2_with fail
  go_ret
  exact ⟨rfl, rfl⟩


theorem write_nil (a : Option Addr) (n c : Nat) (w : World) : Calls Tryd.prog 59 #[.pointer none, .slice a n c] w fun e w' => e = .returned (.tuple #[]) ∧ w = w' := by
  go_enter Tryd.func59, Tryd.ntmps59
  go_wp2
  refine bodyPost_ret (results_none rfl _ _ _) rfl ?_
  exact ⟨rfl, rfl⟩

/-! ### What a Digest stands for -/

/-- The world has new blocks, and block g is written. -/
def But (g : Nat) (w w' : World) : Prop := Below g w w' ∧ ∀ k, k < w.heap.size → k ≠ g → w'.heap[k]? = w.heap[k]?
theorem But.refl (g : Nat) (w : World) : But g w w := ⟨Below.refl _ _, fun _ _ _ => rfl⟩
theorem But.trans {g : Nat} {a b c : World} (h : But g a b) (k : But g b c) : But g a c :=
  ⟨h.1.trans k.1, fun i hi hn => (k.2 i (by have := h.1.size; omega) hn).trans (h.2 i hi hn)⟩
theorem But.of_below {g : Nat} {w w' : World} (h : Below w.heap.size w w') (hg : g ≤ w.heap.size) : But g w w' := ⟨h.mono hg, fun k hk _ => h.block k hk⟩
theorem But.setRow {g : Nat} (w : World) (cs : Array Value) : But g w (w.setRow g cs) :=
  ⟨belowRow (Below.refl _ _) (Nat.le_refl _) cs, fun k _ hn => setRow_other w g k cs hn⟩
theorem But.setCell {g : Nat} (w : World) (o : Nat) (v : Value) : But g w (w.setCell ⟨g, o, none⟩ v) :=
  ⟨(Below.refl g w).setCell (Nat.le_refl _) v, fun k _ hn => heap_setCell_other w _ k v hn⟩
theorem But.drewN {g : Nat} {w w' : World} (h : But g w w') (n : Nat) : But g w (w'.drewN n) := ⟨Below.drewN' h.1 n, h.2⟩
theorem But.below {g B : Nat} {w w' : World} (h : But g w w') (hB : B ≤ g) : Below B w w' := h.1.mono hB
theorem But.glob {g : Nat} {w w' : World} (h : But g w w') (hg : 0 + 2 + 1 ≤ g) (hG : Glob w) : Glob w' := hG.below hg h.1

/-- A slice does not lie in block g. -/
def Off (a : Option Addr) (g : Nat) : Prop := ∀ x, a = some x → x.block ≠ g
theorem Off.from {a : Option Addr} {g c k : Nat} (h : Off a g) : Off (fromA a c k) g := by
  intro x hx
  unfold fromA at hx
  split at hx
  · exact h x hx
  · obtain ⟨y, hy, rfl⟩ := Option.map_eq_some_iff.1 hx
    exact fun e => h y hy (by rw [← e]; simp only [Addr.add]; split <;> rfl)
theorem But.sl {g : Nat} {w w' : World} {a : Option Addr} {c : Nat} {L : List Int} (h : But g w w') (hs : Sl w a c L) (ho : Off a g) : Sl w' a c L := by
  rcases hs with hn | ⟨x, rfl, hx⟩
  · exact .inl hn
  · refine .inr ⟨x, rfl, fun k hk => ?_⟩
    obtain ⟨b, off, rfl, hc⟩ := hx k hk
    refine ⟨b, off, rfl, ?_⟩
    have hb : b < w.heap.size := by
      by_cases hb : b < w.heap.size
      · exact hb
      · rw [World.cell?] at hc
        simp [Array.getElem?_eq_none (show w.heap.size ≤ b by omega)] at hc
    rw [← hc]
    unfold World.cell?
    rw [h.2 b hb (ho _ rfl)]

/-- A Digest stands for a message. -/
def DM (w : World) (g : Nat) (M : List Int) : Prop :=
  ∃ H Bl, Dig w g H Bl M.length ∧ H.length = 8 ∧ Bl.length = 64 ∧ (∀ x, x ∈ Bl → W8 x) ∧ H = states M (M.length / 64) ∧ Bl.take (M.length % 64) = M.drop (64 * (M.length / 64))
theorem DM.lt {w : World} {g : Nat} {M : List Int} (h : DM w g M) : g < w.heap.size := by
  obtain ⟨_, _, h, _⟩ := h
  exact h.lt
theorem DM.below {w w' : World} {g B : Nat} {M : List Int} (h : DM w g M) (hg : g < B) (hb : Below B w w') : DM w' g M := by
  obtain ⟨H, Bl, h, r⟩ := h
  exact ⟨H, Bl, h.below hg hb, r⟩
theorem DM.but {w w' : World} {g k : Nat} {M : List Int} (h : DM w g M) (hg : g ≠ k) (hb : But k w w') : DM w' g M := by
  obtain ⟨H, Bl, h, r⟩ := h
  refine ⟨H, Bl, ?_, r⟩
  unfold Dig
  rw [hb.2 g h.lt hg]
  exact h
theorem DM.new (w : World) : DM (w.alloc (.cells (digs h0s z64 0).toArray 103)) w.heap.size [] :=
  ⟨h0s, z64, heap_alloc_last _ _, rfl, rfl, fun x hx => by
    rw [List.eq_of_mem_replicate hx]
    exact ⟨by omega, by omega⟩, rfl, rfl⟩

theorem states_app (M X : List Int) : ∀ k, 64 * k ≤ M.length → states (M ++ X) k = states M k := by
  intro k
  induction k with
  | zero => intro _; rfl
  | succ k ih =>
    intro h
    simp only [states]
    rw [ih (by omega)]
    congr 1
    rw [List.drop_append_of_le_length (by omega), List.take_append_of_le_length (by simp; omega)]

/-- A part fills the block. -/
theorem step_full (M X H Bl : List Int) (hH : H = states M (M.length / 64)) (hB : Bl.length = 64) (ht : Bl.take (M.length % 64) = M.drop (64 * (M.length / 64))) (hx : M.length % 64 + X.length = 64) :
    blk H (Bl.take (M.length % 64) ++ (X ++ Bl.drop (M.length % 64 + X.length))) = states (M ++ X) ((M ++ X).length / 64) ∧ (M ++ X).length % 64 = 0 ∧ (M ++ X).drop (64 * ((M ++ X).length / 64)) = [] := by
  have hl : (M ++ X).length = 64 * (M.length / 64 + 1) := by simp; omega
  have hq : (M ++ X).length / 64 = M.length / 64 + 1 := by omega
  refine ⟨?_, by omega, ?_⟩
  · rw [hq]
    simp only [states]
    rw [states_app M X _ (by omega), ← hH]
    congr 1
    have h1 : Bl.drop (M.length % 64 + X.length) = [] := List.drop_eq_nil_of_le (by omega)
    rw [h1, List.append_nil, ht, List.drop_append_of_le_length (by omega)]
    rw [List.take_of_length_le]
    simp
    omega
  · rw [hq, ← hl]
    exact List.drop_length
/-- A part does not fill the block. -/
theorem step_part (M X H Bl : List Int) (hH : H = states M (M.length / 64)) (ht : Bl.take (M.length % 64) = M.drop (64 * (M.length / 64))) (hx : M.length % 64 + X.length < 64) :
    H = states (M ++ X) ((M ++ X).length / 64) ∧ (Bl.take (M.length % 64) ++ (X ++ Bl.drop (M.length % 64 + X.length))).take ((M ++ X).length % 64) = (M ++ X).drop (64 * ((M ++ X).length / 64)) := by
  have hl : (M ++ X).length = M.length + X.length := by simp
  have hq : (M ++ X).length / 64 = M.length / 64 := by omega
  have hr : (M ++ X).length % 64 = M.length % 64 + X.length := by omega
  refine ⟨?_, ?_⟩
  · rw [hq, states_app M X _ (by omega), hH]
  · rw [hq, hr, ht, List.drop_append_of_le_length (by omega), ← List.append_assoc]
    apply List.take_left'
    simp
    omega
end Go.Proofs.YtebnlklodokhkaaDoor
