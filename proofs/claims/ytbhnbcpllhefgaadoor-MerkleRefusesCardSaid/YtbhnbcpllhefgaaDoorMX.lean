/-
  Rows of keys: many appended at once, one written over.
-/
import Derived.Test.YtbhnbcpllhefgaaDoorMD2
namespace Go.Proofs.YtbhnbcpllhefgaaDoor
open Go.RowKit

theorem kcells_app (A B : List (List Int)) : kcells (A ++ B) = kcells A ++ kcells B := by simp [kcells]
theorem keys_cells {w : World} {b off : Nat} {P : List (List Int)} (h : Rk w (some ⟨b, off, none⟩) P) : ∀ j u, (kcells P)[j]? = some u → w.cell? ((⟨b, off, none⟩ : Addr).add j) = some u := fun j u hu => by
  have h32 := h.all
  have hj : j < P.length * 32 := by
    rw [← kcells_len P h32]
    exact (List.getElem?_eq_some_iff.1 hu).1
  have e : j = j / 32 * 32 + j % 32 := by omega
  have h1 := kcells_at P h32 (j / 32) (j % 32) (by omega) (by omega)
  rw [← e, hu] at h1
  obtain ⟨b2, off2, e2, -, hr, -⟩ := h (j / 32) (by omega)
  simp only [Option.some.injEq, Addr.mk.injEq, and_true] at e2
  obtain ⟨rfl, rfl⟩ := e2
  rw [Go.WideShapes.add_plain, ← hr (j % 32) u h1.symm, Nat.add_assoc, ← e]
theorem append_keys {w : World} {B : Nat} {a : Option Addr} {c : Nat} {Ms : List (List Int)} (hO : OwnK w B (.slice a Ms.length c) Ms) (P : List (List Int)) (b off m cp : Nat) (hP : Rk w (some ⟨b, off, none⟩) P) (hm : P.length = m) (hB : B ≤ w.heap.size) (hl : Ms.length ≤ 1000) (hl2 : m ≤ 1000) :
    ∃ v' w', (Builtin.append_ #[35, 35] 35 #[.slice a Ms.length c, .slice (some ⟨b, off, none⟩) m cp]).run Tryd.prog w = .ok v' w' ∧ OwnK w' B v' (Ms ++ P) ∧ Below B w w' := by
  obtain ⟨i0, hi, hz0, hz1, hz2⟩ := info_parts info25
  have hu : Tryd.prog.underlying 35 = some (.slice 24) := by kernel_rfl
  have h32 := hP.all
  have hkl : (kcells P).length = m * 32 := by rw [kcells_len P h32, hm]
  have hone : ∀ u ∈ kcells P, u.oneCell' = true := fun u hu => by
    obtain ⟨k, hk, hku⟩ := List.mem_flatMap.1 hu
    exact ints_oneCell _ _ u hku
  obtain ⟨v', w', hr, h2, h3, h4, h5⟩ := run_append_own_at (P := Tryd.prog) w B 35 35 24 i0 _ 32 32 hu hi hz0 hz1 hz2 rfl (by decide) _ Ms.length (kcells Ms) hO.1 ⟨b, off, none⟩ m cp (kcells P) hkl (keys_cells hP) hone (by unfold maxLen; omega) (by omega) hB
  refine ⟨v', w', hr, ⟨?_, fun x hx => ?_⟩, (Below.refl _ w).grown h3 hB (fun j hj => (hO.1.lt j hj).1)⟩
  · rw [kcells_app, List.length_append, hm]
    exact h2
  · rcases List.mem_append.1 hx with h | h
    · exact hO.2 x h
    · exact h32 x h
theorem build_nil_keys (w : World) : (Instr.buildSlice 35 0 #[]).run Tryd.prog w = .ok (.slice (some ⟨w.heap.size, 0, none⟩) 0 0) (w.alloc (.cells #[] 24)) := by
  obtain ⟨i0, hi, hz0, hz1, hz2⟩ := info_parts info25
  have hu : Tryd.prog.underlying 35 = some (.slice 24) := by kernel_rfl
  simp [Instr.buildSlice, run_underlying hu, sizeOf, typeInfo, hi, newRow, go_sem]
theorem own_nil_keys (w : World) : OwnK (w.alloc (.cells #[] 24)) w.heap.size (.slice (some ⟨w.heap.size, 0, none⟩) 0 0) [] :=
  ⟨World.ownsRow_made w #[] 0 (Nat.le_refl _) (by simp [maxLen]) (by simp), fun k hk => by cases hk⟩
theorem OwnK.there {w : World} {B g n cap : Nat} {Ks : List (List Int)} (h : OwnK w B (.slice (some ⟨g, 0, none⟩) n cap) Ks) (i : Nat) (hi : i < Ks.length) (hn : n = Ks.length) : w.there g (i * 32) 32 := fun j hj => by
  subst hn
  have hlen := h.1.1
  refine ⟨?_, h.1.frozenAt _⟩
  have hlt : i * 32 + j < (kcells Ks).length := by omega
  rw [h.1.cellAt (i * 32 + j) (by omega), List.getElem?_eq_getElem hlt]
  rfl
theorem OwnK.form {w : World} {B : Nat} {v : Value} {Ks : List (List Int)} (h : OwnK w B v Ks) (hk : 0 < Ks.length) : ∃ g cap, v = .slice (some ⟨g, 0, none⟩) Ks.length cap ∧ B ≤ g ∧ g < w.heap.size ∧ Ks.length ≤ cap := by
  rcases h.1.2 with ⟨-, h0⟩ | ⟨g, cap, cur, rfl, hb, hg, hcap, -⟩
  · omega
  · exact ⟨g, cap, rfl, hb, (Array.getElem?_eq_some_iff.1 hg).1, hcap⟩
theorem Rk.set {w : World} {b : Nat} {P : List (List Int)} (h : Rk w (some ⟨b, 0, none⟩) P) (i : Nat) (X : List Int) (hX : X.length = 32) (ht : w.there b (i * 32) 32) : Rk (w.setCells b (i * 32) (X.map (Value.int .u8))) (some ⟨b, 0, none⟩) (P.set i X) := fun j hj => by
  have hj' : j < P.length := by simpa using hj
  obtain ⟨b2, off2, e2, hlt, hr, hl⟩ := h j hj'
  simp only [Option.some.injEq, Addr.mk.injEq, and_true] at e2
  obtain ⟨rfl, rfl⟩ := e2
  have hsz := (But.setCells (g := b) (X.map (Value.int .u8)) (i * 32) w).1.size
  have hlen : b < (w.setCells b (i * 32) (X.map (Value.int .u8))).heap.size := by
    have h1 := (But.setCells (g := b) (X.map (Value.int .u8)) (i * 32) w).1
    have := h1.size
    omega
  by_cases hij : i = j
  · subst hij
    have e : (P.set i X).getD i [] = X := by simp [List.getD, List.getElem?_set_self hj']
    rw [e]
    refine ⟨b, 0, rfl, hlen, ?_, hX⟩
    rw [Nat.zero_add]
    exact World.rangeAt_setCells_same w b (i * 32) _ (by rw [List.length_map, hX]; exact ht)
  · have e : (P.set i X).getD j [] = P.getD j [] := by simp [List.getD, List.getElem?_set_ne hij]
    rw [e]
    refine ⟨b, 0, rfl, hlen, ?_, hl⟩
    exact World.rangeAt_setCells_apart hr b (i * 32) _ (.inr (by rw [List.length_map, List.length_map, hl, hX]; omega))
theorem rem_i64 {ρ : Operand → Value} {o : Oper} {x y : Operand} (ho : o.op = .binOp .rem 3 x y 3) (a b : Int) (hb : b ≠ 0) (hx : ρ x = .int .i64 a) (hy : ρ y = .int .i64 b) (w : World) :
    (execOp ρ o).run Tryd.prog w = .ok (.value (.int .i64 (a.tmod b))) w := by
  unfold execOp
  simp only [ho, hx, hy]
  simp [hb, go_sem]
theorem append_none_keys {w : World} {B : Nat} {v : Value} {Ms : List (List Int)} (hO : OwnK w B v Ms) (cp : Nat) : (Builtin.append_ #[35, 35] 35 #[v, .slice none 0 cp]).run Tryd.prog w = .ok v w := by
  obtain ⟨i0, hi, hz0, hz1, hz2⟩ := info_parts info25
  have hu : Tryd.prog.underlying 35 = some (.slice 24) := by kernel_rfl
  rcases hO.1.2 with ⟨rfl, h0⟩ | ⟨g, cap, cur, rfl, _, _, hnc, _⟩
  · simp [Builtin.append_, run_underlying hu, sizeOf, typeInfo, hi, Builtin.lenOf, Builtin.firstCells]
  · simp [Builtin.append_, run_underlying hu, sizeOf, typeInfo, hi, Builtin.lenOf, Builtin.firstCells, hnc, storeCells]
theorem append_keys_any {w : World} {B : Nat} {a : Option Addr} {c : Nat} {Ms : List (List Int)} (hO : OwnK w B (.slice a Ms.length c) Ms) (P : List (List Int)) (pa : Option Addr) (m cp : Nat) (hP : Rk w pa P) (hm : P.length = m) (hB : B ≤ w.heap.size) (hl : Ms.length ≤ 1000) (hl2 : m ≤ 1000) :
    ∃ a' c' w', (Builtin.append_ #[35, 35] 35 #[.slice a Ms.length c, .slice pa m cp]).run Tryd.prog w = .ok (.slice a' (Ms.length + m) c') w' ∧ OwnK w' B (.slice a' (Ms.length + m) c') (Ms ++ P) ∧ Below B w w' ∧ w.grownBy w' (Value.slice a Ms.length c).ownBlock := by
  cases pa with
  | none =>
    have h0 : P = [] := by
      cases P with
      | nil => rfl
      | cons p P =>
        obtain ⟨_, _, e, -⟩ := hP 0 (by simp)
        cases e
    subst h0
    obtain rfl : m = 0 := by simpa using hm.symm
    exact ⟨a, c, w, append_none_keys hO cp, by simpa using hO, Below.refl _ _, World.grownBy.refl w _⟩
  | some x =>
    obtain ⟨i0, hi, hz0, hz1, hz2⟩ := info_parts info25
    have hu : Tryd.prog.underlying 35 = some (.slice 24) := by kernel_rfl
    have h32 := hP.all
    have hkl : (kcells P).length = m * 32 := by rw [kcells_len P h32, hm]
    have hone : ∀ u ∈ kcells P, u.oneCell' = true := fun u hu => by
      obtain ⟨k, hk, hku⟩ := List.mem_flatMap.1 hu
      exact ints_oneCell _ _ u hku
    have hcells : ∀ j u, (kcells P)[j]? = some u → w.cell? (x.add j) = some u := by
      cases P with
      | nil => intro j u hu; simp [kcells] at hu
      | cons p P =>
        obtain ⟨b, off, e, -⟩ := hP 0 (by simp)
        simp only [Option.some.injEq] at e
        subst e
        exact keys_cells hP
    obtain ⟨v', w', hr, h2, h3, h4, h5⟩ := run_append_own_at (P := Tryd.prog) w B 35 35 24 i0 _ 32 32 hu hi hz0 hz1 hz2 rfl (by decide) _ Ms.length (kcells Ms) hO.1 x m cp (kcells P) hkl hcells hone (by unfold maxLen; omega) (by omega) hB
    have hOK : OwnK w' B v' (Ms ++ P) := by
      refine ⟨?_, fun x hx => ?_⟩
      · rw [kcells_app, List.length_append, hm]
        exact h2
      · rcases List.mem_append.1 hx with h | h
        · exact hO.2 x h
        · exact h32 x h
    obtain ⟨a2, c2, rfl, -, -⟩ := hOK.rk
    rw [List.length_append, hm] at hr hOK
    exact ⟨a2, c2, w', hr, hOK, (Below.refl _ w).grown h3 hB (fun j hj => (hO.1.lt j hj).1), h3⟩
theorem rk_one {w : World} {g : Nat} {X : List Int} (h : Ab w g 24 X) (hX : X.length = 32) : Rk w (some ⟨g, 0, none⟩) [X] := fun i hi => by
  obtain rfl : i = 0 := by simpa using hi
  exact ⟨g, 0, rfl, h.lt, h.range, hX⟩
theorem Ab.grown {w w' : World} {g t : Nat} {X : List Int} {r : Option Nat} (h : Ab w g t X) (hg : w.grownBy w' r) (hr : some g ≠ r) : Ab w' g t X := (hg.block g h.lt hr).trans h
/-- 'append' in a region that draws its order, its run known. -/
theorem step_run {P : Program} {w : World} {ops : Array Oper} {o : Oper} {a : Act} {K : Act → World → Prop} {Q : Exit → Act → World → Prop} {E : Prop} (hgd : o.guard = none) (s x : Operand) (t ty : TypeId)
    (ho : o.op = .call { callee := .builtin .append, args := #[s, x], argTypes := #[t, t] }) (hty : o.type = ty) (v u v' : Value) (w' : World) (hs : a.eval s = v) (hx : a.eval x = u)
    (hr : (Builtin.append_ #[t, t] ty #[v, u]).run P w = .ok v' w') (h : K (a.put o.dst v') w') : if Region.wanted o (yielded ops a.tmps) = true then Oper.wp P o a w K Q else E := by
  subst hty
  have hw : Region.wanted o (yielded ops a.tmps) = true := by simp [Region.wanted, hgd]
  rw [if_pos hw]
  unfold Oper.wp execOp
  simp only [ho, resolve, invoke, builtin, Sem.run_bind, Sem.run_pure, Result.andThen_ok, List.map_toArray, List.map_cons, List.map_nil, hs, hx, hr]
  exact h
end Go.Proofs.YtbhnbcpllhefgaaDoor
