/-
  A row that a call made reads as its fields; the fixed example returns true.
  Conditions: none of their own.
-/
import Derived.Test.YtaaeepanelmgnaaWH4
import Derived.Lib.SlBytesConst
import Derived.Lib.SmallJoins
namespace Go.Proofs.Ytaaeepanelmgnaa
set_option maxRecDepth 100000
open Go.RowKit

theorem RowB.fs {w : World} {B : Nat} {v : Value} {ps : List (Fld × Value)} (h : RowB w B v ps) : ∃ a c, v = .slice a ps.length c ∧ ps.length ≤ c ∧ Fs w a ps := by
  obtain ⟨a, c, rfl, hc⟩ := h.form
  refine ⟨a, c, rfl, hc, fun i p hi => ?_⟩
  have hlt : i < ps.length := (List.getElem?_eq_some_iff.1 hi).1
  obtain ⟨g, rfl, hg, hgl⟩ := own_at h.1 (by omega)
  obtain ⟨ba, bc, hb, hs, -⟩ := (h.2 p (List.mem_of_getElem? hi)).sl
  refine ⟨g, 0, ba, bc, rfl, hb, hs, ?_, ?_, ?_, ?_⟩
  · rw [h.1.cellAt _ (by omega), show 0 + i * 4 = i * 4 + 0 by omega, row4_get ps i 0 p hi (by omega)]
    rfl
  · rw [h.1.cellAt _ (by omega), show 0 + i * 4 + 1 = i * 4 + 1 by omega, row4_get ps i 1 p hi (by omega)]
    rfl
  · rw [h.1.cellAt _ (by omega), show 0 + i * 4 + 2 = i * 4 + 2 by omega, row4_get ps i 2 p hi (by omega)]
    rfl
  · rw [h.1.cellAt _ (by omega), show 0 + i * 4 + 3 = i * 4 + 3 by omega, row4_get ps i 3 p hi (by omega)]
    simp only [cellsOf, List.getElem?_cons_succ, List.getElem?_cons_zero, hb]
theorem Fs.below {w w' : World} {a : Option Addr} {ps : List (Fld × Value)} (h : Fs w a ps) (hb : Below w.heap.size w w') : Fs w' a ps := by
  intro i p hi
  obtain ⟨b, off, ba, bc, h1, h2, h3, h4⟩ := h i p hi
  exact ⟨b, off, ba, bc, h1, h2, sl_below h3 hb, h4.below hb⟩

def f1 : Fld := ⟨1, 0, 300, []⟩
def f2 : Fld := ⟨2, 2, 0, [97, 98]⟩
theorem vf1 : Vf f1 := ⟨⟨by decide, by decide, .inl ⟨rfl, rfl⟩⟩, ⟨by decide, by decide⟩, by simp [f1], by simp [f1]⟩
theorem vf2 : Vf f2 := ⟨⟨by decide, by decide, .inr ⟨rfl, rfl⟩⟩, ⟨by decide, by decide⟩, by simp [f2], by simp [f2]⟩
theorem e1 : encI 1 0 300 [] = [8, 172, 2] := by decide +kernel
theorem e2 : [8, 172, 2] ++ encI 2 2 0 [97, 98] = [8, 172, 2, 18, 2, 97, 98] := by decide +kernel
theorem r1 : flds [8, 172, 2, 18, 2, 97, 98] = ([f1, f2], 0, 0) := by
  have h := flds_enc [f1, f2] 8 [] 0 (by intro x hx; simp at hx; rcases hx with rfl | rfl; exact vf1; exact vf2) (by simp) (by decide +kernel)
  have he : [f1, f2].flatMap encF = [8, 172, 2, 18, 2, 97, 98] := by decide +kernel
  rw [he] at h
  exact h
def f3 : Fld := ⟨1, 0, 1, []⟩
theorem vf3 : Vf f3 := ⟨⟨by decide, by decide, .inl ⟨rfl, rfl⟩⟩, ⟨by decide, by decide⟩, by simp [f3], by simp [f3]⟩
theorem r2 : flds [8, 1, 18, 2, 97] = ([], 2, 5) := by
  have he : encF f3 = [8, 1] := by decide +kernel
  have h1 := one_enc f3 vf3 [18, 2, 97]
  rw [he] at h1
  have h2 : onef [18, 2, 97] = (zeroF, 0, 5) := one_short (t := 18) (n := 2) (h := 1) (k := 1) (by decide +kernel) (by unfold goodT; omega) (by decide +kernel) (by omega) (by decide)
  have h3 : flds [8, 1, 18, 2, 97] = fldsG 5 ([] ++ [f3]) (0 + 2) ([8, 1, 18, 2, 97].drop 2) := flds_next (by decide) (by decide) h1
  rw [h3]
  exact flds_err (by decide) (by decide) h2 (by omega)
theorem z2 : szB 2 = 4 := by decide +kernel

theorem kap1 (w : World) : Calls Try.prog 60 #[.slice none 0 0, .agg #[.int .i64 1, .int .i64 0, .int .u64 300, .slice none 0 0]] w fun e w' => ∃ v, e = .returned (.tuple #[v, .int .i64 0]) ∧ Own w' w.heap.size v [8, 172, 2] ∧ Below w.heap.size w w' := by
  have h := code_wappend none 0 [] 1 0 300 none 0 [] w (by simp) (by simp) (.inl ⟨rfl, rfl, rfl⟩) (.inl ⟨rfl, rfl, rfl⟩) vf1.1 ⟨by decide, by decide⟩
  rw [e1] at h
  exact h
theorem sl_mark (w : World) (fr : Nat × Nat) : Sl (w.alloc (.cells #[.int .u8 97, .int .u8 98] 5 fr)) (some ⟨w.heap.size, 0, none⟩) 2 [97, 98] := by
  refine .inr ⟨_, rfl, fun k hk => ⟨_, _, rfl, ?_⟩⟩
  rw [Nat.zero_add, cell_of_row _ w.heap.size k _ 5 fr (heap_alloc_new w _)]
  match k, hk with
  | 0, _ => rfl
  | 1, _ => rfl
theorem kap2 (w : World) (a : Option Addr) (c g : Nat) (fr : Nat × Nat) (hg : g = w.heap.size) (hs : Sl w a c [8, 172, 2]) : Calls Try.prog 60 #[.slice a 3 c, .agg #[.int .i64 2, .int .i64 2, .int .u64 0, .slice (some ⟨g, 0, none⟩) 2 2]] (w.alloc (.cells #[.int .u8 97, .int .u8 98] 5 fr)) fun e w' => ∃ v, e = .returned (.tuple #[v, .int .i64 0]) ∧ Own w' (w.alloc (.cells #[.int .u8 97, .int .u8 98] 5 fr)).heap.size v [8, 172, 2, 18, 2, 97, 98] ∧ Below (w.alloc (.cells #[.int .u8 97, .int .u8 98] 5 fr)).heap.size (w.alloc (.cells #[.int .u8 97, .int .u8 98] 5 fr)) w' := by
  subst hg
  have h := code_wappend a c [8, 172, 2] 2 2 0 (some ⟨w.heap.size, 0, none⟩) 2 [97, 98] (w.alloc (.cells #[.int .u8 97, .int .u8 98] 5 fr)) (by simp) (by simp) (sl_below hs ((Below.refl _ _).alloc (Nat.le_refl _) _)) (sl_mark w fr) vf2.1 ⟨by decide, by decide⟩
  rw [e2] at h
  exact h
theorem kfl1 (w : World) (a : Option Addr) (c : Nat) (hs : Sl w a c [8, 172, 2, 18, 2, 97, 98]) (hc : 7 ≤ c) : Calls Try.prog 51 #[.slice a 7 c] w fun e w' => ∃ g c1, e = .returned (.tuple #[.slice (some ⟨g, 0, none⟩) 2 c1, .int .i64 0, .int .i64 0]) ∧ w'.cell? ⟨g, 2, none⟩ = some (.int .u64 300) ∧ Below w.heap.size w w' := by
  have h := code_fields a c [8, 172, 2, 18, 2, 97, 98] w (by simp) hs (by simp [W8]) hc
  rw [r1] at h
  refine h.mono ?_
  rintro e w' ⟨v, ps, rfl, hps, hr, hb⟩
  obtain ⟨a1, c1, rfl, -, hF⟩ := hr.fs
  have hl : ps.length = 2 := by have := congrArg List.length hps; simpa using this
  match ps, hl with
  | [p, q], _ =>
    simp only [List.map_cons, List.map_nil, List.cons.injEq, and_true] at hps
    obtain ⟨b, off, ba, bc, rfl, -, -, hx⟩ := hF 0 p rfl
    obtain ⟨g, hg, -, -⟩ := own_at hr.1 (by simp)
    simp only [Option.some.injEq, Addr.mk.injEq, and_true] at hg
    obtain ⟨rfl, rfl⟩ := hg
    refine ⟨b, c1, rfl, ?_, hb⟩
    have := hx.2.2.1
    rw [hps.1] at this
    simpa [f1] using this
theorem kfl2 (w : World) (g : Nat) (hg : g = w.heap.size) : Calls Try.prog 51 #[.slice (some ⟨g, 0, none⟩) 5 5] (w.alloc (.cells #[.int .u8 8, .int .u8 1, .int .u8 18, .int .u8 2, .int .u8 97] 5)) fun e w' => ∃ v, e = .returned (.tuple #[v, .int .i64 2, .int .i64 5]) ∧ Below (w.alloc (.cells #[.int .u8 8, .int .u8 1, .int .u8 18, .int .u8 2, .int .u8 97] 5)).heap.size (w.alloc (.cells #[.int .u8 8, .int .u8 1, .int .u8 18, .int .u8 2, .int .u8 97] 5)) w' := by
  subst hg
  have h := code_fields (some ⟨w.heap.size, 0, none⟩) 5 [8, 1, 18, 2, 97] _ (by simp) (sl_new w [8, 1, 18, 2, 97] 5) (by simp [W8]) (by simp)
  rw [r2] at h
  refine h.mono ?_
  rintro e w' ⟨v, ps, rfl, -, -, hb⟩
  exact ⟨v, rfl, hb⟩
end Go.Proofs.Ytaaeepanelmgnaa
