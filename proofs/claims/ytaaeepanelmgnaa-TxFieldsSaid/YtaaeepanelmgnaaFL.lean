/-
  Rows of fields whose bytes lie below the row; one element, one number written.
-/
import Derived.Test.YtaaeepanelmgnaaDL
import Derived.Deep.MidRow
namespace Go.Proofs.Ytaaeepanelmgnaa
open Go.RowKit
set_option linter.unusedSimpArgs false
set_option linter.unusedVariables false

/-- One cell of a row of the call's own is written. -/
theorem own_set {w : World} {B e s n c b : Nat} {xs : List Value} (h : w.ownsRow B e s (.slice (some ⟨b, 0, none⟩) n c) n xs) (j : Nat) (v : Value) (hj : j < xs.length) : (w.setCell ⟨b, j, none⟩ v).ownsRow B e s (.slice (some ⟨b, 0, none⟩) n c) n (xs.set j v) := by
  have hlen := h.1
  rcases h.2 with ⟨e0, -⟩ | ⟨g, cap, cur, e0, hb, hg, hn, hm, hc, ht⟩
  · cases e0
  · simp only [Value.slice.injEq, Option.some.injEq, Addr.mk.injEq, and_true, true_and] at e0
    obtain ⟨rfl, rfl⟩ := e0
    refine ⟨by simpa using hlen, .inr ⟨b, c, cur.setIfInBounds j v, rfl, hb, Joins.block_setCell hg v, hn, hm, by simpa using hc, ?_⟩⟩
    rw [Array.toList_setIfInBounds, List.take_set, ht]
theorem own_blk {w : World} {B e s n c b : Nat} {xs : List Value} (h : w.ownsRow B e s (.slice (some ⟨b, 0, none⟩) n c) n xs) : ∃ cur, Bx w b cur e ∧ n * s ≤ cur.size ∧ B ≤ b ∧ cur.toList.take (n * s) = xs := by
  rcases h.2 with ⟨e0, -⟩ | ⟨g, cap, cur, e0, hb, hg, hn, hm, hc, ht⟩
  · cases e0
  · simp only [Value.slice.injEq, Option.some.injEq, Addr.mk.injEq, and_true, true_and] at e0
    obtain ⟨rfl, rfl⟩ := e0
    exact ⟨cur, hg, by rw [hc]; exact Nat.mul_le_mul_right _ hn, hb, ht⟩
theorem own_sets {B e s n c b : Nat} : ∀ (vs : List Value) (o : Nat) (w : World) (xs : List Value), w.ownsRow B e s (.slice (some ⟨b, 0, none⟩) n c) n xs → o + vs.length ≤ xs.length → (w.setCells b o vs).ownsRow B e s (.slice (some ⟨b, 0, none⟩) n c) n (xs.take o ++ vs ++ xs.drop (o + vs.length))
  | [], o, w, xs, h, _ => by simpa [World.setCells] using h
  | v :: r, o, w, xs, h, hl => by
    rw [List.length_cons] at hl
    have h1 := own_sets r (o + 1) _ _ (own_set h o v (by omega)) (by rw [List.length_set]; omega)
    rw [World.setCells]
    have e : (xs.set o v).take (o + 1) ++ r ++ (xs.set o v).drop (o + 1 + r.length) = xs.take o ++ v :: r ++ xs.drop (o + (v :: r).length) := by
      rw [List.drop_set_of_lt (by omega), List.take_set, List.length_cons, show o + (r.length + 1) = o + 1 + r.length by omega]
      have ho : o < xs.length := by omega
      rw [List.take_add_one, List.getElem?_eq_getElem ho, Option.toList_some, List.set_append_right _ _ (by rw [List.length_take]; omega), List.length_take, Nat.min_eq_left (by omega), Nat.sub_self, List.set_cons_zero]
      simp
    rw [e] at h1
    exact h1
theorem below_sets {B b : Nat} (hB : B ≤ b) : ∀ (vs : List Value) (o : Nat) (w : World), Below B w (w.setCells b o vs)
  | [], o, w => Below.refl _ _
  | v :: r, o, w => ((Below.refl B w).setCell hB v).trans (below_sets hB r (o + 1) _)
/-- A field's bytes lie below B. -/
def Lo (w : World) (B : Nat) (p : Fld × Value) : Prop := ∃ a c, p.2 = .slice a p.1.bytes.length c ∧ Sl w a c p.1.bytes ∧ (p.1.bytes ≠ [] → ∀ x, a = some x → x.block < B)
def RowL (w : World) (B : Nat) (v : Value) (ps : List (Fld × Value)) : Prop := w.ownsRow B 54 4 v ps.length (row4 ps) ∧ ∀ p, p ∈ ps → Lo w B p
theorem Lo.far {w w' : World} {B : Nat} {p : Fld × Value} (h : Lo w B p) (hb : Below B w w') : Lo w' B p := by
  obtain ⟨a, c, h1, h2, h3⟩ := h
  refine ⟨a, c, h1, ?_, h3⟩
  rcases h2 with h2 | ⟨x, rfl, hx⟩
  · exact .inl h2
  · refine .inr ⟨x, rfl, fun k hk => ?_⟩
    obtain ⟨b, off, rfl, hc⟩ := hx k hk
    have hne : p.1.bytes ≠ [] := by intro e; rw [e] at hk; simp at hk
    exact ⟨b, off, rfl, (hb.cell (p := ⟨b, off + k, none⟩) (show b < B from h3 hne ⟨b, off, none⟩ rfl)).trans hc⟩
theorem Lo.non (w : World) (B : Nat) (x : Fld) (h : x.bytes = []) : Lo w B (x, .slice none x.bytes.length 0) := ⟨none, 0, rfl, .inl ⟨rfl, rfl, h⟩, fun _ y hy => by cases hy⟩
theorem RowL.below {w w' : World} {B : Nat} {v : Value} {ps : List (Fld × Value)} (h : RowL w B v ps) (hB : B ≤ w.heap.size) (hb : Below w.heap.size w w') : RowL w' B v ps := ⟨own_below h.1 hb, fun p hp => (h.2 p hp).far (hb.mono hB)⟩
theorem RowL.fs {w : World} {B : Nat} {v : Value} {ps : List (Fld × Value)} (h : RowL w B v ps) : ∃ a c, v = .slice a ps.length c ∧ ps.length ≤ c ∧ Fs w a ps := by
  have hf : ∃ a c, v = .slice a ps.length c ∧ ps.length ≤ c := by
    rcases h.1.2 with ⟨rfl, h0⟩ | ⟨g, cap, cur, rfl, _, _, hcap, _⟩
    · exact ⟨none, 0, by rw [h0], by omega⟩
    · exact ⟨_, cap, rfl, hcap⟩
  obtain ⟨a, c, rfl, hc⟩ := hf
  refine ⟨a, c, rfl, hc, fun i p hi => ?_⟩
  have hlt : i < ps.length := (List.getElem?_eq_some_iff.1 hi).1
  obtain ⟨g, rfl, hg, hgl⟩ := own_at h.1 (by omega)
  obtain ⟨ba, bc, hb, hs, -⟩ := h.2 p (List.mem_of_getElem? hi)
  refine ⟨g, 0, ba, bc, rfl, hb, hs, ?_, ?_, ?_, ?_⟩
  · rw [h.1.cellAt _ (by omega), show 0 + i * 4 = i * 4 + 0 by omega, row4_get ps i 0 p hi (by omega)]
    rfl
  · rw [h.1.cellAt _ (by omega), show 0 + i * 4 + 1 = i * 4 + 1 by omega, row4_get ps i 1 p hi (by omega)]
    rfl
  · rw [h.1.cellAt _ (by omega), show 0 + i * 4 + 2 = i * 4 + 2 by omega, row4_get ps i 2 p hi (by omega)]
    rfl
  · rw [h.1.cellAt _ (by omega), show 0 + i * 4 + 3 = i * 4 + 3 by omega, row4_get ps i 3 p hi (by omega)]
    simp only [cellsOf, List.getElem?_cons_succ, List.getElem?_cons_zero, hb]
theorem row4_app (A B : List (Fld × Value)) : row4 (A ++ B) = row4 A ++ row4 B := by simp [row4]
theorem row4_one {w : World} {B : Nat} {M : List (Fld × Value)} (h : ∀ p, p ∈ M → Lo w B p) : ∀ u ∈ row4 M, u.oneCell' = true := fun u hu => by
  obtain ⟨p, hp, hup⟩ := List.mem_flatMap.1 hu
  obtain ⟨a, c, h1, -⟩ := h p hp
  simp only [cellsOf, h1, List.mem_cons, List.not_mem_nil, or_false] at hup
  rcases hup with rfl | rfl | rfl | rfl <;> rfl
theorem row4_cons (p : Fld × Value) (r : List (Fld × Value)) : row4 (p :: r) = cellsOf p ++ row4 r := rfl
theorem row4_set : ∀ (ps : List (Fld × Value)) (i : Nat) (q : Fld × Value), i < ps.length → (row4 ps).take (i * 4) ++ cellsOf q ++ (row4 ps).drop (i * 4 + 4) = row4 (ps.set i q)
  | p :: r, 0, q, h => by
    rw [List.set_cons_zero, row4_cons, row4_cons]
    rfl
  | p :: r, i + 1, q, h => by
    have h1 := row4_set r i q (by simpa using h)
    rw [List.set_cons_succ, row4_cons, row4_cons, ← h1, show (i + 1) * 4 = i * 4 + 4 by omega]
    rfl
theorem nil_fd (w : World) : (Instr.buildSlice 50 0 #[]).run Try.prog w = .ok (.slice (some ⟨w.heap.size, 0, none⟩) 0 0) (w.alloc (.cells #[] 54)) := build_nil Try.underlying50 info25 w
theorem nil_l (w : World) : RowL (w.alloc (.cells #[] 54)) w.heap.size (.slice (some ⟨w.heap.size, 0, none⟩) 0 0) [] := ⟨own_nil w 54 4, fun p hp => by cases hp⟩
/-- 'append' of fields to a row that the call made. -/
theorem grow_l {w : World} {B : Nat} {v : Value} {A M : List (Fld × Value)} (h : RowL w B v A) (hB : B ≤ w.heap.size) (pa : Option Addr) (cp : Nat) (hP : Cs w pa (row4 M)) (hM : ∀ p, p ∈ M → Lo w B p) (hl : A.length + M.length ≤ 100000) :
    ∃ a c V2, (Builtin.append_ #[50, 50] 50 #[v, .slice pa M.length cp]).run Try.prog w = .ok (.slice a (A ++ M).length c) V2 ∧ RowL V2 B (.slice a (A ++ M).length c) (A ++ M) ∧ Below B w V2 := by
  obtain ⟨i0, hi, hz0, hz1, hz2⟩ := info_parts info25
  have fin : ∀ v2 V2, (Builtin.append_ #[50, 50] 50 #[v, .slice pa M.length cp]).run Try.prog w = .ok v2 V2 → V2.ownsRow B 54 4 v2 (A ++ M).length (row4 (A ++ M)) → Below B w V2 → ∃ a c V2, (Builtin.append_ #[50, 50] 50 #[v, .slice pa M.length cp]).run Try.prog w = .ok (.slice a (A ++ M).length c) V2 ∧ RowL V2 B (.slice a (A ++ M).length c) (A ++ M) ∧ Below B w V2 := fun v2 V2 hr ho hb => by
    have hr2 : RowL V2 B v2 (A ++ M) := ⟨ho, fun p hp => (List.mem_append.1 hp).elim (fun h9 => (h.2 p h9).far hb) (fun h9 => (hM p h9).far hb)⟩
    obtain ⟨a, c, rfl, -, -⟩ := hr2.fs
    exact ⟨a, c, V2, hr, hr2, hb⟩
  cases pa with
  | none =>
    have hM0 : M = [] := by
      cases M with
      | nil => rfl
      | cons y r =>
        obtain ⟨b, off, e, -⟩ := hP 0 (.int .i64 y.1.num) rfl
        cases e
    subst hM0
    refine fin v w ?_ (by rw [List.append_nil]; exact h.1) (Below.refl _ _)
    rcases h.1.2 with ⟨rfl, h0⟩ | ⟨g, cap, cur, rfl, _, _, hnc, _⟩
    · simp [Builtin.append_, run_underlying Try.underlying50, sizeOf, typeInfo, hi, Builtin.lenOf, Builtin.firstCells]
    · simp [Builtin.append_, run_underlying Try.underlying50, sizeOf, typeInfo, hi, Builtin.lenOf, Builtin.firstCells, hnc, storeCells]
  | some x =>
    have hx : ∀ j u, (row4 M)[j]? = some u → w.cell? (x.add j) = some u := fun j u hu => by
      obtain ⟨b, off, e, -, hc⟩ := hP j u hu
      cases e
      rw [Addr.add_mid]
      exact hc
    obtain ⟨v2, V2, hr, hO2, hg, -, -⟩ := run_append_own_at (P := Try.prog) w B 50 50 54 i0 _ 4 48 Try.underlying50 hi hz0 hz1 hz2 (by kernel_rfl) (by omega) v A.length (row4 A) h.1 x M.length cp (row4 M) (row4_length M) hx (row4_one hM) (by unfold maxLen; omega) (by omega) hB
    exact fin v2 V2 hr (by rw [row4_app, List.length_append]; exact hO2) ((Below.refl _ w).grown hg hB fun j hj => (World.ownsRow.lt h.1 j hj).1)
/-- One element is written. -/
theorem set_l {w : World} {B g n c i : Nat} {ps : List (Fld × Value)} (h : RowL w B (.slice (some ⟨g, 0, none⟩) n c) ps) (hn : n = ps.length) (hi : i < ps.length) (q : Fld × Value) {b : Option Addr} {d : Nat} (hq : q.2 = .slice b q.1.bytes.length d) (hL : Lo w B q) :
    ∃ V2, (Instr.storeAt 54 (.pointer (some ⟨g, 0 + i * 4, none⟩)) (.agg (fdA q.1 b d))).run Try.prog w = .ok () V2 ∧ RowL V2 B (.slice (some ⟨g, 0, none⟩) n c) (ps.set i q) ∧ Below B w V2 := by
  subst hn
  have hge : B ≤ g := by
    obtain ⟨g2, e, h1, -⟩ := own_at h.1 (by omega)
    cases e
    exact h1
  have hst := run_storeAt_mid (P := Try.prog) w g (0 + i * 4) 54 (fdA q.1 b d) (fun k hk => by
    have hk4 : k < 4 := hk
    obtain ⟨cur, hcur, hz, -, -⟩ := own_blk h.1
    refine ⟨?_, frozen_of_row w g _ _ 54 hcur⟩
    rw [cell_of_row w g _ _ 54 (0, 0) hcur, Array.getElem?_eq_getElem (by omega)]
    rfl) (by kernel_rfl) (by simp [Value.oneCell'])
  have hb : Below B w (w.setCells g (0 + i * 4) (fdA q.1 b d).toList) := below_sets hge _ _ _
  have ho := own_sets (fdA q.1 b d).toList (0 + i * 4) w (row4 ps) h.1 (by rw [row4_length]; show 0 + i * 4 + 4 ≤ _; omega)
  refine ⟨_, hst, ⟨?_, fun p hp => ?_⟩, hb⟩
  · rw [List.length_set, ← row4_set ps i q hi]
    have e : (fdA q.1 b d).toList = cellsOf q := by unfold cellsOf; rw [hq]
    rw [e] at ho ⊢
    rw [Nat.zero_add] at ho ⊢
    exact ho
  · rcases List.mem_or_eq_of_mem_set hp with h9 | h9
    · exact (h.2 p h9).far hb
    · rw [h9]
      exact hL.far hb
theorem load_l {w : World} {B g n c i : Nat} {ps : List (Fld × Value)} (h : RowL w B (.slice (some ⟨g, 0, none⟩) n c) ps) {p : Fld × Value} (hi : ps[i]? = some p) {b : Option Addr} {d : Nat} (hq : p.2 = .slice b p.1.bytes.length d) : (Instr.loadAt 54 (.pointer (some ⟨g, 0 + i * 4, none⟩))).run Try.prog w = .ok (.agg (fdA p.1 b d)) w := by
  obtain ⟨a, c2, e, -, hf⟩ := h.fs
  simp only [Value.slice.injEq] at e
  obtain ⟨rfl, -, -⟩ := e
  obtain ⟨b2, off, ba, bc, e2, e3, -, hbox⟩ := hf i p hi
  cases e2
  rw [hq] at e3
  simp only [Value.slice.injEq, true_and] at e3
  obtain ⟨rfl, rfl⟩ := e3
  exact load_fd (fd_range hbox)
end Go.Proofs.Ytaaeepanelmgnaa
