/-
  Slices of bytes, more: parts of a slice; rows that a call made and what becomes of them; blocks that were just made.
  Conditions: none of their own.
-/
import Derived.Test.YtaaeepanelmgnaaVC4
import Derived.Test.YtaaeepanelmgnaaVC5
import Derived.Test.YtaaeepanelmgnaaWAr
import Derived.Lib.AppendZeros
import Derived.Deep.Onto
import Derived.Deep.RegionHeld3
namespace Go.Proofs.Ytaaeepanelmgnaa
set_option maxRecDepth 100000
open Go.RowKit

theorem info25 : (Try.prog.info? 54).map (fun i => (i.zero, i.size, i.bytes)) = some (some (.agg #[.int .i64 0, .int .i64 0, .int .u64 0, .slice none 0 0]), 4, 48) := by kernel_rfl
theorem info22 : (Try.prog.info? 39).map (fun i => (i.zero, i.size, i.bytes)) = some (some (.slice none 0 0), 1, 24) := by kernel_rfl

theorem getD_lt {α : Type} (l : List α) (k : Nat) (d : α) (h : k < l.length) : l.getD k d = l[k] := by rw [List.getD_eq_getElem?_getD, List.getElem?_eq_getElem h]; rfl

/-- A block of bytes that was just made. -/
theorem sl_new (w : World) (xs : List Int) (c : Nat) : Sl (w.alloc (.cells (xs.map (Value.int .u8)).toArray 5)) (some ⟨w.heap.size, 0, none⟩) c xs := by
  refine .inr ⟨_, rfl, fun k hk => ⟨_, _, rfl, ?_⟩⟩
  rw [cell_of_row _ w.heap.size (0 + k) _ 5 (0, 0) (heap_alloc_new w _), Nat.zero_add]
  simp [List.getD_eq_getElem?_getD, List.getElem?_eq_getElem hk]

theorem own_at {w : World} {B e s n c : Nat} {a : Option Addr} {xs : List Value} (h : w.ownsRow B e s (.slice a n c) n xs) (hn : 0 < n) : ∃ g, a = some ⟨g, 0, none⟩ ∧ B ≤ g ∧ g < w.heap.size := by
  rcases h.2 with ⟨_, h0⟩ | ⟨g, cap, cur, e, hb, hg, _⟩
  · omega
  · simp only [Value.slice.injEq] at e
    exact ⟨g, e.1, hb, (Array.getElem?_eq_some_iff.1 hg).1⟩
theorem own_base {w : World} {B B' e size n : Nat} {v : Value} {xs : List Value} (h : w.ownsRow B' e size v n xs) (hB : B ≤ B') : w.ownsRow B e size v n xs :=
  ⟨h.1, h.2.imp id (fun ⟨g, cap, cur, a, b, c⟩ => ⟨g, cap, cur, a, Nat.le_trans hB b, c⟩)⟩
theorem own_below {w w' : World} {B e size n : Nat} {v : Value} {xs : List Value} (h : w.ownsRow B e size v n xs) (hb : Below w.heap.size w w') : w'.ownsRow B e size v n xs := by
  refine ⟨h.1, ?_⟩
  rcases h.2 with hn | ⟨g, cap, cur, rfl, hg, hgg, rest⟩
  · exact .inl hn
  · exact .inr ⟨g, cap, cur, rfl, hg, by rw [hb.block g (Array.getElem?_eq_some_iff.1 hgg).1]; exact hgg, rest⟩
/-- Rows of different element types lie in different blocks. -/
theorem own_ne {w : World} {B B' e e' size size' n n' : Nat} {v v' : Value} {xs xs' : List Value} (h : w.ownsRow B e size v n xs) (h' : w.ownsRow B' e' size' v' n' xs') (hne : e ≠ e') : v.ownBlock = none ∨ v.ownBlock ≠ v'.ownBlock := by
  rcases h.2 with ⟨rfl, _⟩ | ⟨g, cap, cur, rfl, _, hgg, _⟩
  · exact .inl rfl
  · rcases h'.2 with ⟨rfl, _⟩ | ⟨g', cap', cur', rfl, _, hgg', _⟩
    · exact .inr (by simp [Value.ownBlock])
    · refine .inr fun he => ?_
      simp only [Value.ownBlock, Option.some.injEq] at he
      subst he
      rw [hgg] at hgg'
      simp only [Option.some.injEq, Obj.cells.injEq] at hgg'
      exact hne hgg'.2.1

theorem sl_take {w : World} {a : Option Addr} {c : Nat} {M : List Int} (h : Sl w a c M) (n : Nat) : Sl w a c (M.take n) := by
  rcases h with ⟨rfl, rfl, rfl⟩ | ⟨x, rfl, hx⟩
  · exact .inl ⟨rfl, rfl, by simp⟩
  · refine .inr ⟨x, rfl, fun k hk => ?_⟩
    rw [List.length_take] at hk
    obtain ⟨b, off, rfl, hc⟩ := hx k (by omega)
    refine ⟨b, off, rfl, ?_⟩
    rw [hc, List.getD_eq_getElem?_getD, List.getD_eq_getElem?_getD, List.getElem?_take, if_pos (by omega)]
theorem slice_to (kh : IntKind) (a : Option Addr) (n c k : Nat) (w : World) (h : k ≤ c) : (Instr.slice 39 (.slice a n c) none (some (.int kh (k : Int))) none).run Try.prog w = .ok (.slice a k c) w := by
  have hs : (sizeOf (Try.prog.elem 39)).run Try.prog w = .ok 1 w := by kernel_rfl
  have e := run_slice_h (P := Try.prog) w 39 a n c (by kernel_rfl) kh (k : Int) (by omega) (by omega)
  rw [e, hs]
  cases a <;> simp [sliced, Result.andThen, Addr.add]
/-- Where the rest of a slice begins. -/
def fromA (a : Option Addr) (c k : Nat) : Option Addr := if c = k then a else a.map (·.add k)
theorem slice_from (kl : IntKind) (a : Option Addr) (n c k : Nat) (w : World) (h : k ≤ n) : (Instr.slice 39 (.slice a n c) (some (.int kl (k : Int))) none none).run Try.prog w = .ok (.slice (fromA a c k) (n - k) (c - k)) w := by
  have hs : (sizeOf (Try.prog.elem 39)).run Try.prog w = .ok 1 w := by kernel_rfl
  have e := run_slice_l (P := Try.prog) w 39 a n c (by kernel_rfl) kl (k : Int) (by omega) (by omega)
  rw [e, hs]
  by_cases hk : c = k <;> cases a <;> simp [sliced, Result.andThen, fromA, hk]
/-- A part of a slice. -/
theorem slice_part (kl kh : IntKind) (a : Option Addr) (n c k m : Nat) (w : World) (h : k ≤ m) (h1 : m ≤ c) : (Instr.slice 39 (.slice a n c) (some (.int kl (k : Int))) (some (.int kh (m : Int))) none).run Try.prog w = .ok (.slice (fromA a c k) (m - k) (c - k)) w := by
  have hs : (sizeOf (Try.prog.elem 39)).run Try.prog w = .ok 1 w := by kernel_rfl
  have e := run_slice_lh (P := Try.prog) w 39 a n c (by kernel_rfl) kl kh (k : Int) (m : Int) (by omega) (by omega) (by omega)
  rw [e, hs]
  by_cases hk : c = k <;> cases a <;> simp [sliced, Result.andThen, fromA, hk]
theorem sl_from {w : World} {a : Option Addr} {c : Nat} {L : List Int} (h : Sl w a c L) (k : Nat) (hc : L.length ≤ c) : Sl w (fromA a c k) (c - k) (L.drop k) := by
  rcases h with ⟨rfl, rfl, rfl⟩ | ⟨x, rfl, hx⟩
  · exact .inl ⟨by simp [fromA], by omega, by simp⟩
  · by_cases hk : c = k
    · refine .inr ⟨x, by simp [fromA, hk], fun j hj => ?_⟩
      rw [List.length_drop] at hj
      omega
    · refine .inr ⟨x.add k, by simp [fromA, hk], fun j hj => ?_⟩
      rw [List.length_drop] at hj
      obtain ⟨b, off, rfl, h1⟩ := hx (k + j) (by omega)
      refine ⟨b, off + k, by rw [Go.WideShapes.add_plain], ?_⟩
      rw [Nat.add_assoc, h1, List.getD_eq_getElem?_getD, List.getD_eq_getElem?_getD, List.getElem?_drop]

/-- A row that is nil or was made by the call, as bytes. -/
def Own (w : World) (B : Nat) (v : Value) (L : List Int) : Prop := w.ownsRow B 5 1 v L.length (L.map (Value.int .u8))
theorem Own.sl {w : World} {B : Nat} {v : Value} {L : List Int} (h : Own w B v L) : ∃ a c, v = .slice a L.length c ∧ Sl w a c L ∧ L.length ≤ c := by
  obtain ⟨a, c, h1, h2, _, h3⟩ := sl_own h
  exact ⟨a, c, h1, h2, h3⟩
theorem Own.below {w w' : World} {B : Nat} {v : Value} {L : List Int} (h : Own w B v L) (hb : Below w.heap.size w w') : Own w' B v L := own_below h hb
theorem Own.base {w : World} {B B' : Nat} {v : Value} {L : List Int} (h : Own w B' v L) (hB : B ≤ B') : Own w B v L := World.ownsRow.mono h hB
theorem Own.nil (w : World) (B : Nat) : Own w B (.slice none 0 0) [] := World.ownsRow_nil _ _ _ _
end Go.Proofs.Ytaaeepanelmgnaa
