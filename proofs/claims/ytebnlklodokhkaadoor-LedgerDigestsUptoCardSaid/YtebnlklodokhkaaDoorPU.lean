/-
  Arguments opened: a slice of ints, a ledger; with the bound of the second form.
  Conditions: none of their own.
-/
import Derived.Test.YtebnlklodokhkaaDoorRows
import Derived.Test.YtebnlklodokhkaaDoorDW
import Derived.Test.YtebnlklodokhkaaDoorSP1
import Derived.ProofKit
import Derived.OpenShut
import Derived.ChangeOld
import Derived.Below
import Derived.SizedLaws
import Derived.Deep.Strs
import Derived.Deep.Slices
namespace Go.Proofs.YtebnlklodokhkaaDoor.Lg
open Go.ChangeShapes Go.WideShapes Go.ChangeAt Go.RowKit Go.Deep Go.Joins

theorem bulk_one {H : Type} (d : DataW H) : 1 ≤ Rows.uptoBulk d := by
  cases d with
  | lit l => cases l <;> simp [Rows.uptoBulk]
  | nil => simp [Rows.uptoBulk]
  | ptr d => simp [Rows.uptoBulk]
  | slice e r => simp [Rows.uptoBulk]
  | agg p => simp [Rows.uptoBulk]
  | iface t d => simp [Rows.uptoBulk]
  | map e => simp [Rows.uptoBulk]
  | held h => simp [Rows.uptoBulk]
theorem bulk_app {H : Type} (l r : List (DataW H)) : Rows.uptoBulkAll (l ++ r) = Rows.uptoBulkAll l + Rows.uptoBulkAll r := by
  induction l with
  | nil => simp [Rows.uptoBulkAll]
  | cons d l ih => simp only [List.cons_append, Rows.uptoBulkAll, ih]; omega

theorem i64_of_wf {x : Int} (h : (Lit.int .i64 x).wf = true) : I64 x := by
  simp [Lit.wf, IntKind.min, IntKind.max, IntKind.signed, IntKind.bits] at h
  exact ⟨by omega, by omega⟩
theorem ints_arg {H : Type} {enc : TypeId × Value → H} {W : World} {fuel : Nat} {cs : List Value} {y : DataW H × List MemPlace} (h : DataW.trod enc Tryd.prog W 0 (fun _ => true) true fuel 26 cs = some y) :
    ∃ a cap L, cs = [.slice a (List.length L) cap] ∧ L.length ≤ 9223372036854775807 ∧ Cs W a (icells L) := by
  rcases open_ints Tryd.underlying26 Tryd.underlying3 (by kernel_rfl) h with ⟨rfl, rfl⟩ | ⟨x, l, c, zs, rfl, _, hl, hm, hz, rfl, hcell, hwz⟩
  · exact ⟨none, 0, [], rfl, by simp, Cs.nil _ _⟩
  · have hz' : zs.length = c := by simpa using hz
    have hlen : (zs.take l).length = l := by rw [List.length_take]; omega
    refine ⟨some x, c, zs.take l, by rw [hlen], by rw [hlen]; unfold maxLen at hm; omega, fun j v hj => ?_⟩
    have hjl : j < (zs.take l).length := by
      have := (List.getElem?_eq_some_iff.1 hj).1
      simpa [icells] using this
    have hjz : j < zs.length := by omega
    obtain ⟨b, off, rfl, hc⟩ := ints_at hcell (by omega)
    rw [icells_at _ _ hjl] at hj
    simp only [Option.some.injEq] at hj
    have hcj := hc j hjz
    refine ⟨b, off, rfl, World.block_lt_of_cell? W _ hcj, ?_⟩
    rw [hcj, ← hj]
    simp [List.getD, show j < l by omega]
/-- A list of what is there at each place. -/
theorem list_of {α : Type} {Q : Nat → α → Prop} (n : Nat) (h : ∀ i, i < n → ∃ p, Q i p) : ∃ ps : List α, ps.length = n ∧ ∀ i p, ps[i]? = some p → Q i p := by
  induction n with
  | zero => exact ⟨[], rfl, fun i p hi => by simp at hi⟩
  | succ n ih =>
    obtain ⟨ps, hl, hq⟩ := ih (fun i hi => h i (by omega))
    obtain ⟨p, hp⟩ := h n (by omega)
    refine ⟨ps ++ [p], by simp [hl], fun i q hi => ?_⟩
    by_cases hlt : i < n
    · rw [List.getElem?_append_left (by omega)] at hi
      exact hq i q hi
    · have hb := (List.getElem?_eq_some_iff.1 hi).1
      rw [List.length_append, List.length_singleton] at hb
      obtain rfl : i = n := by omega
      rw [List.getElem?_append_right (by omega), hl] at hi
      simp at hi
      exact hi ▸ hp
theorem size_list (x : ByteArray) : x.data.toList.length = x.size := Array.length_toList
theorem u64_of_wf {x : Int} (h : (Lit.int .u64 x).wf = true) : W64 x := by
  simp [Lit.wf, IntKind.min, IntKind.max, IntKind.signed, IntKind.bits] at h
  exact ⟨by omega, by omega⟩
theorem u8_of_wf {x : Int} (h : (Lit.int .u8 x).wf = true) : 0 ≤ x ∧ x ≤ 255 := by
  simp [Lit.wf, IntKind.min, IntKind.max, IntKind.signed, IntKind.bits] at h
  exact ⟨by omega, by omega⟩
theorem u16_of_wf {x : Int} (h : (Lit.int .u16 x).wf = true) : 0 ≤ x ∧ x ≤ 65535 := by
  simp [Lit.wf, IntKind.min, IntKind.max, IntKind.signed, IntKind.bits] at h
  exact ⟨by omega, by omega⟩
theorem weights_all {H : Type} {P : Program} {e : TypeId} {d : DataW H} : ∀ {ds : List (DataW H)}, d ∈ ds → ∀ n, n ∈ d.weights P e → n ∈ DataW.weightsAll P e ds
  | x :: r, h, n, hn => by
    simp only [DataW.weightsAll, List.mem_append]
    rcases List.mem_cons.1 h with rfl | h
    · exact .inl hn
    · exact .inr (weights_all h n hn)
set_option maxRecDepth 100000 in
theorem ac_arg {H : Type} {enc : TypeId × Value → H} {W : World} {fuel : Nat} {cs : List Value} {y : DataW H × List MemPlace} (h : DataW.trod enc Tryd.prog W 0 (fun _ => true) true fuel 37 cs = some y) :
    ∃ x : Ac, cs = acl x ∧ (W64 x.2.1 ∧ W64 x.2.2) ∧ x.1.size + 1 ≤ Rows.uptoBulk y.1 := by
  obtain ⟨y0, y1, y2, n, rfl, hl, t0, t1, t2⟩ := trod_struct3 Tryd.underlying37 h
  have hc : Tryd.prog.cellsOf 37 = 3 := by kernel_rfl
  rw [hc] at hl
  match cs, hl with
  | [c0, c1, c2], _ =>
    obtain ⟨s0, e0, d0, -⟩ := DataW.trod_string Tryd.underlying9 t0
    obtain ⟨n1, e1, -, w1⟩ := DataW.trod_int (k := .u64) Tryd.underlying23 t1
    obtain ⟨n2, e2, -, w2⟩ := DataW.trod_int (k := .u64) Tryd.underlying23 t2
    have k0 : Tryd.prog.cellsOf 9 = 1 := by kernel_rfl
    have k1 : Tryd.prog.cellsOf 23 = 1 := by kernel_rfl
    simp only [k0, k1, List.drop_zero, List.drop_succ_cons, List.take_succ_cons, List.take_zero, List.cons.injEq, and_true] at e0 e1 e2
    subst e0 e1 e2
    refine ⟨(s0, n1, n2), rfl, ⟨u64_of_wf w1, u64_of_wf w2⟩, ?_⟩
    simp only [Rows.uptoBulk, Rows.uptoBulkAll]
    rw [d0]
    simp only [Rows.uptoBulk]
    have := size_list s0
    omega
theorem bulk_range {H : Type} (D : Nat → DataW H) (n : Nat) (ps : List Ac) (hl : ps.length = n) (h : ∀ i p, ps[i]? = some p → p.1.size + 1 ≤ Rows.uptoBulk (D i)) : szA ps + ps.length ≤ Rows.uptoBulkAll ((List.range n).map D) := by
  induction n generalizing ps with
  | zero =>
    obtain rfl := List.eq_nil_of_length_eq_zero hl
    simp [szA]
  | succ n ih =>
    obtain ⟨qs, p, rfl⟩ : ∃ qs p, ps = qs ++ [p] := ⟨ps.dropLast, ps.getLast (by intro e; subst e; simp at hl), (List.dropLast_concat_getLast _).symm⟩
    rw [List.length_append, List.length_singleton] at hl
    have h1 := ih qs (by omega) (fun i q hq => h i q (by rw [List.getElem?_append_left (List.getElem?_eq_some_iff.1 hq).1]; exact hq))
    have h2 := h n p (by rw [List.getElem?_append_right (by omega), show n - qs.length = 0 by omega]; rfl)
    have h3 : szA (qs ++ [p]) = szA qs + p.1.size := by simp [szA]
    rw [List.range_succ, List.map_append, bulk_app, h3, List.length_append, List.length_singleton]
    simp only [List.map_cons, List.map_nil, Rows.uptoBulkAll]
    omega
set_option maxRecDepth 100000 in
theorem acs_arg {H : Type} {enc : TypeId × Value → H} {W : World} {fuel : Nat} {cs : List Value} {y : DataW H × List MemPlace} (h : DataW.trod enc Tryd.prog W 0 (fun _ => true) true fuel 22 cs = some y) :
    ∃ a cap M, cs = [.slice a (List.length M) cap] ∧ M.length ≤ cap ∧ Cs W a (acc M) ∧ (∀ x, x ∈ M → W64 x.2.1 ∧ W64 x.2.2) ∧ szA M + M.length ≤ Rows.uptoBulk y.1 := by
  rcases open_slice Tryd.underlying22 h with ⟨rfl, rfl⟩ | ⟨a, len, cap, m, n, D, Pl, rfl, _, hl, hm, hmm, rfl, hi⟩
  · exact ⟨none, 0, [], rfl, Nat.le_refl _, Cs.nil _ _, (fun x hx => by cases hx), by simp [szA]⟩
  · have hm' : m = cap := by simpa using hmm
    have hc : Tryd.prog.cellsOf 37 = 3 := by kernel_rfl
    obtain ⟨M, hpl, hps⟩ := list_of (Q := fun i (x : Ac) => (∀ j v, (acl x)[j]? = some v → W.cell? (a.add (i * 3 + j)) = some v) ∧ (W64 x.2.1 ∧ W64 x.2.2) ∧ x.1.size + 1 ≤ Rows.uptoBulk (D i)) len (by
      intro i hlt
      obtain ⟨cs', h1, h2⟩ := hi i (by omega)
      obtain ⟨x, rfl, hw, hwt⟩ := ac_arg h2
      rw [hc] at h1
      obtain ⟨_, _, hat⟩ := World.cells?_some h1
      refine ⟨x, fun j v hj => ?_, hw, ?_⟩
      · have hj3 : j < 3 := by
          have := (List.getElem?_eq_some_iff.1 hj).1
          simpa [acl] using this
        have := hat j hj3
        rw [add_add] at this
        rw [this, hj]
      · exact hwt)
    have hspot : 0 < M.length → a.spot = none := fun h0 => by
      have h1 := (hps 0 (M[0]) (by simp [h0])).1 0 (.string (M[0]).1) rfl
      have h2 : W.cell? a = some (.string (M[0]).1) := by simpa [Addr.add] using h1
      exact World.cell?_spot h2
    refine ⟨some a, cap, M, by rw [hpl], by rw [hpl]; omega, fun j v hj => ?_, fun x hx => by
      obtain ⟨i, hlt, e⟩ := List.getElem_of_mem hx
      exact (hps i x (by rw [List.getElem?_eq_getElem hlt, e])).2.1, by
      have h7 := bulk_range D len M hpl (fun i p hp => (hps i p hp).2.2)
      simp only [Rows.uptoBulk]
      omega⟩
    have hjl : j < M.length * 3 := by
      have := (List.getElem?_eq_some_iff.1 hj).1
      rwa [acc_len] at this
    obtain ⟨b, off, spot⟩ := a
    obtain rfl : spot = none := hspot (by omega)
    have hk : j / 3 < M.length := by omega
    have hcell : W.cell? ⟨b, off + j, none⟩ = some v := by
      have h1 := (hps (j / 3) (aca M (j / 3)) (by rw [aca_get hk]; exact List.getElem?_eq_getElem hk)).1 (j % 3)
      obtain ⟨c0, c1, c2⟩ := acc_at M (j / 3) hk
      have h2 : (acl (aca M (j / 3)))[j % 3]? = some v := by
        rcases (show j % 3 = 0 ∨ j % 3 = 1 ∨ j % 3 = 2 by omega) with e | e | e
        · rw [show j = j / 3 * 3 by omega, c0] at hj; rw [e]; exact hj
        · rw [show j = j / 3 * 3 + 1 by omega, c1] at hj; rw [e]; exact hj
        · rw [show j = j / 3 * 3 + 2 by omega, c2] at hj; rw [e]; exact hj
      have h3 := h1 v h2
      rw [Go.WideShapes.add_plain, show j / 3 * 3 + j % 3 = j by omega] at h3
      exact h3
    exact ⟨b, off, rfl, World.block_lt_of_cell? W _ hcell, hcell⟩
def ledl (a : Option Addr) (n c : Nat) (cc : Int) : List Value := [.slice a n c, .int .u64 cc]
set_option maxRecDepth 100000 in
theorem led_arg {H : Type} {enc : TypeId × Value → H} {W : World} {fuel : Nat} {cs : List Value} {y : DataW H × List MemPlace} (h : DataW.trod enc Tryd.prog W 0 (fun _ => true) true fuel 25 cs = some y) :
    ∃ a cap M cc, cs = ledl a (List.length M) cap cc ∧ M.length ≤ cap ∧ Cs W a (acc M) ∧ (∀ x, x ∈ M → W64 x.2.1 ∧ W64 x.2.2) ∧ W64 cc ∧ szA M + M.length ≤ Rows.uptoBulk y.1 := by
  obtain ⟨y0, y1, n, hy, hl, t0, t1⟩ := trod_struct2 Tryd.underlying25 h
  have hc : Tryd.prog.cellsOf 25 = 2 := by kernel_rfl
  rw [hc] at hl
  match cs, hl with
  | [c0, c1], _ =>
    obtain ⟨a, c, M, e0, hcap, hcs, hxs, hbk⟩ := acs_arg t0
    obtain ⟨n1, e1, -, w1⟩ := DataW.trod_int (k := .u64) Tryd.underlying23 t1
    have k0 : Tryd.prog.cellsOf 22 = 1 := by kernel_rfl
    have k1 : Tryd.prog.cellsOf 23 = 1 := by kernel_rfl
    simp only [k0, k1, List.drop_zero, List.drop_succ_cons, List.take_succ_cons, List.take_zero, List.cons.injEq, and_true] at e0 e1
    subst e0 e1
    exact ⟨a, c, M, n1, rfl, hcap, hcs, hxs, u64_of_wf w1, by rw [hy]; simp only [Rows.uptoBulk, Rows.uptoBulkAll]; omega⟩
end Go.Proofs.YtebnlklodokhkaaDoor.Lg
