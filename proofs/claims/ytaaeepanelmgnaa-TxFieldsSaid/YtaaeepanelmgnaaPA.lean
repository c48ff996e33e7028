/-
  Arguments opened: a slice of ints, a transaction.
  Conditions: none of their own.
-/
import Derived.Test.YtaaeepanelmgnaaRows
import Derived.Test.YtaaeepanelmgnaaEN
import Derived.ProofKit
import Derived.OpenShut
import Derived.ChangeOld
import Derived.Below
import Derived.SizedLaws
import Derived.Deep.Strs
import Derived.Deep.Slices
namespace Go.Proofs.Ytaaeepanelmgnaa
open Go.ChangeShapes Go.WideShapes Go.ChangeAt Go.RowKit Go.Deep Go.Joins

theorem i64_of_wf {x : Int} (h : (Lit.int .i64 x).wf = true) : I64 x := by
  simp [Lit.wf, IntKind.min, IntKind.max, IntKind.signed, IntKind.bits] at h
  exact ⟨by omega, by omega⟩
theorem ints_arg {H : Type} {enc : TypeId × Value → H} {W : World} {fuel : Nat} {cs : List Value} {y : DataW H × List MemPlace} (h : DataW.trod enc Try.prog W 0 (fun _ => true) true fuel 30 cs = some y) :
    ∃ a cap L, cs = [.slice a (List.length L) cap] ∧ L.length ≤ 9223372036854775807 ∧ Cs W a (icells L) := by
  rcases open_ints Try.underlying30 Try.underlying3 (by kernel_rfl) h with ⟨rfl, rfl⟩ | ⟨x, l, c, zs, rfl, _, hl, hm, hz, rfl, hcell, hwz⟩
  · exact ⟨none, 0, [], rfl, by simp, Cs.nil _ _⟩
  · have hz' : zs.length = c := by simpa using hz
    have hlen : (zs.take l).length = l := by rw [List.length_take]; omega
    refine ⟨some x, c, zs.take l, by rw [hlen], by rw [hlen]; unfold maxLen at hm; omega, fun j v hj => ?_⟩
    have hjl : j < (zs.take l).length := by
      have := (List.getElem?_eq_some_iff.1 hj).1
      simpa [icells] using this
    have hjz : j < zs.length := by omega
    obtain ⟨b, off, rfl, hc⟩ := ints_at hcell (by omega)
    rw [icells_at _ _ hjl] at hj
    simp only [Option.some.injEq] at hj
    have hcj := hc j hjz
    refine ⟨b, off, rfl, World.block_lt_of_cell? W _ hcj, ?_⟩
    rw [hcj, ← hj]
    simp [List.getD, show j < l by omega]
/-- A list of what is there at each place. -/
theorem list_of {α : Type} {Q : Nat → α → Prop} (n : Nat) (h : ∀ i, i < n → ∃ p, Q i p) : ∃ ps : List α, ps.length = n ∧ ∀ i p, ps[i]? = some p → Q i p := by
  induction n with
  | zero => exact ⟨[], rfl, fun i p hi => by simp at hi⟩
  | succ n ih =>
    obtain ⟨ps, hl, hq⟩ := ih (fun i hi => h i (by omega))
    obtain ⟨p, hp⟩ := h n (by omega)
    refine ⟨ps ++ [p], by simp [hl], fun i q hi => ?_⟩
    by_cases hlt : i < n
    · rw [List.getElem?_append_left (by omega)] at hi
      exact hq i q hi
    · have hb := (List.getElem?_eq_some_iff.1 hi).1
      rw [List.length_append, List.length_singleton] at hb
      obtain rfl : i = n := by omega
      rw [List.getElem?_append_right (by omega), hl] at hi
      simp at hi
      exact hi ▸ hp
theorem size_list (x : ByteArray) : x.data.toList.length = x.size := Array.length_toList
theorem u64_of_wf {x : Int} (h : (Lit.int .u64 x).wf = true) : W64 x := by
  simp [Lit.wf, IntKind.min, IntKind.max, IntKind.signed, IntKind.bits] at h
  exact ⟨by omega, by omega⟩
theorem u8_of_wf {x : Int} (h : (Lit.int .u8 x).wf = true) : 0 ≤ x ∧ x ≤ 255 := by
  simp [Lit.wf, IntKind.min, IntKind.max, IntKind.signed, IntKind.bits] at h
  exact ⟨by omega, by omega⟩
theorem u16_of_wf {x : Int} (h : (Lit.int .u16 x).wf = true) : 0 ≤ x ∧ x ≤ 65535 := by
  simp [Lit.wf, IntKind.min, IntKind.max, IntKind.signed, IntKind.bits] at h
  exact ⟨by omega, by omega⟩
section
variable {H : Type} {enc : TypeId × Value → H} {P : Program} {w : World} {base : Nat} {spare : Nat → Bool} {held : Bool}
theorem trod_struct6 {t : TypeId} {f0 f1 f2 f3 f4 f5 : Field} {fuel : Nat} {cs : List Value} {x : DataW H × List MemPlace} (ht : P.underlying t = some (.struct #[f0, f1, f2, f3, f4, f5])) (h : DataW.trod enc P w base spare held fuel t cs = some x) :
    ∃ y0 y1 y2 y3 y4 y5 n, x.1 = .agg [y0.1, y1.1, y2.1, y3.1, y4.1, y5.1] ∧ cs.length = P.cellsOf t ∧ DataW.trod enc P w base spare held n f0.type ((cs.drop f0.offset).take (P.cellsOf f0.type)) = some y0 ∧
      DataW.trod enc P w base spare held n f1.type ((cs.drop f1.offset).take (P.cellsOf f1.type)) = some y1 ∧ DataW.trod enc P w base spare held n f2.type ((cs.drop f2.offset).take (P.cellsOf f2.type)) = some y2 ∧
      DataW.trod enc P w base spare held n f3.type ((cs.drop f3.offset).take (P.cellsOf f3.type)) = some y3 ∧ DataW.trod enc P w base spare held n f4.type ((cs.drop f4.offset).take (P.cellsOf f4.type)) = some y4 ∧
      DataW.trod enc P w base spare held n f5.type ((cs.drop f5.offset).take (P.cellsOf f5.type)) = some y5 := by
  obtain ⟨xs, n, _, rfl, hl, hlen, hf⟩ := DataW.trod_struct ht h
  match xs, hlen with
  | [y0, y1, y2, y3, y4, y5], _ => exact ⟨y0, y1, y2, y3, y4, y5, n, by simp, hl, by simpa using hf 0 f0 rfl, by simpa using hf 1 f1 rfl, by simpa using hf 2 f2 rfl, by simpa using hf 3 f3 rfl, by simpa using hf 4 f4 rfl, by simpa using hf 5 f5 rfl⟩
end
theorem weights_all {H : Type} {P : Program} {e : TypeId} {d : DataW H} : ∀ {ds : List (DataW H)}, d ∈ ds → ∀ n, n ∈ d.weights P e → n ∈ DataW.weightsAll P e ds
  | x :: r, h, n, hn => by
    simp only [DataW.weightsAll, List.mem_append]
    rcases List.mem_cons.1 h with rfl | h
    · exact .inl hn
    · exact .inr (weights_all h n hn)
set_option maxRecDepth 100000 in
theorem tf_arg {H : Type} {enc : TypeId × Value → H} {W : World} {fuel : Nat} {cs : List Value} {y : DataW H × List MemPlace} (h : DataW.trod enc Try.prog W 0 (fun _ => true) true fuel 58 cs = some y) :
    ∃ x : Tf, cs = tfl x ∧ W64 x.2 ∧ (x.1.size : Nat) ∈ y.1.weights Try.prog 58 := by
  obtain ⟨y0, y1, n, rfl, hl, t0, t1⟩ := trod_struct2 Try.underlying58 h
  have hc : Try.prog.cellsOf 58 = 2 := by kernel_rfl
  rw [hc] at hl
  match cs, hl with
  | [c0, c1], _ =>
    obtain ⟨s0, e0, d0, -⟩ := DataW.trod_string Try.underlying9 t0
    obtain ⟨n1, e1, -, w1⟩ := DataW.trod_int (k := .u64) Try.underlying26 t1
    have k0 : Try.prog.cellsOf 9 = 1 := by kernel_rfl
    have k1 : Try.prog.cellsOf 26 = 1 := by kernel_rfl
    simp only [k0, k1, List.drop_zero, List.drop_succ_cons, List.take_succ_cons, List.take_zero, List.cons.injEq, and_true] at e0 e1
    subst e0 e1
    refine ⟨(s0, n1), rfl, u64_of_wf w1, ?_⟩
    rw [d0]
    simp [DataW.weights, Try.underlying58, DataW.weightsEach]
set_option maxRecDepth 100000 in
theorem tfs_arg {H : Type} {enc : TypeId × Value → H} {W : World} {fuel : Nat} {cs : List Value} {y : DataW H × List MemPlace} (h : DataW.trod enc Try.prog W 0 (fun _ => true) true fuel 27 cs = some y) (hz : ∀ n, n ∈ y.1.weights Try.prog 27 → n ≤ reachBytes) :
    ∃ a cap M, cs = [.slice a (List.length M) cap] ∧ M.length * 24 ≤ 140737488351232 ∧ Cs W a (tfc M) ∧ ∀ x, x ∈ M → W64 x.2 ∧ x.1.size ≤ 140737488355328 := by
  rcases open_slice Try.underlying27 h with ⟨rfl, rfl⟩ | ⟨a, len, cap, m, n, D, Pl, rfl, _, hl, hm, hmm, rfl, hi⟩
  · exact ⟨none, 0, [], rfl, by simp, Cs.nil _ _, fun x hx => by cases hx⟩
  · have hm' : m = cap := by simpa using hmm
    have hc : Try.prog.cellsOf 58 = 2 := by kernel_rfl
    have h24 : Try.prog.bytesOf 58 = 24 := by kernel_rfl
    have hr : reachBytes = 140737488351232 := rfl
    have hlen : len * 24 ≤ 140737488351232 := by
      have h1 := hz ((len + (m - len)) * 24) (by simp [DataW.weights, Try.underlying27, h24])
      rw [hr] at h1
      have : len * 24 ≤ (len + (m - len)) * 24 := Nat.mul_le_mul_right _ (Nat.le_add_right _ _)
      omega
    obtain ⟨M, hpl, hps⟩ := list_of (Q := fun i (x : Tf) => (∀ j v, (tfl x)[j]? = some v → W.cell? (a.add (i * 2 + j)) = some v) ∧ W64 x.2 ∧ x.1.size ≤ 140737488355328) len (by
      intro i hlt
      obtain ⟨cs', h1, h2⟩ := hi i (by omega)
      obtain ⟨x, rfl, hw, hwt⟩ := tf_arg h2
      rw [hc] at h1
      obtain ⟨_, _, hat⟩ := World.cells?_some h1
      refine ⟨x, fun j v hj => ?_, hw, ?_⟩
      · have hj3 : j < 2 := by
          have := (List.getElem?_eq_some_iff.1 hj).1
          simpa [tfl] using this
        have := hat j hj3
        rw [add_add] at this
        rw [this, hj]
      · have hmem : D i ∈ (List.range len).map D := List.mem_map.2 ⟨i, List.mem_range.2 hlt, rfl⟩
        have h3 := hz _ (by
          simp only [DataW.weights, Try.underlying27]
          exact List.mem_cons_of_mem _ (List.mem_append_left _ (weights_all hmem _ hwt)))
        omega)
    have hspot : 0 < M.length → a.spot = none := fun h0 => by
      have h1 := (hps 0 (M[0]) (by simp [h0])).1 0 (.string (M[0]).1) rfl
      have h2 : W.cell? a = some (.string (M[0]).1) := by simpa [Addr.add] using h1
      exact World.cell?_spot h2
    refine ⟨some a, cap, M, by rw [hpl], by rw [hpl]; exact hlen, fun j v hj => ?_, fun x hx => by
      obtain ⟨i, hlt, e⟩ := List.getElem_of_mem hx
      exact (hps i x (by rw [List.getElem?_eq_getElem hlt, e])).2⟩
    have hjl : j < M.length * 2 := by
      have := (List.getElem?_eq_some_iff.1 hj).1
      rwa [tfc_len] at this
    obtain ⟨b, off, spot⟩ := a
    obtain rfl : spot = none := hspot (by omega)
    have hk : j / 2 < M.length := by omega
    have hcell : W.cell? ⟨b, off + j, none⟩ = some v := by
      have h1 := (hps (j / 2) (tfa M (j / 2)) (by rw [tfa_get hk]; exact List.getElem?_eq_getElem hk)).1 (j % 2)
      obtain ⟨c0, c1⟩ := tfc_at M (j / 2) hk
      have h2 : (tfl (tfa M (j / 2)))[j % 2]? = some v := by
        rcases (show j % 2 = 0 ∨ j % 2 = 1 by omega) with e | e
        · rw [show j = j / 2 * 2 by omega, c0] at hj; rw [e]; exact hj
        · rw [show j = j / 2 * 2 + 1 by omega, c1] at hj; rw [e]; exact hj
      have h3 := h1 v h2
      rw [Go.WideShapes.add_plain, show j / 2 * 2 + j % 2 = j by omega] at h3
      exact h3
    exact ⟨b, off, rfl, World.block_lt_of_cell? W _ hcell, hcell⟩
def txl (x : Txd) (a : Option Addr) (c : Nat) : List Value := [.string x.snd, .int .u64 x.sq, .int .u64 x.gas, .int .u64 x.fee, .string x.memo, .slice a x.tr.length c]
set_option maxRecDepth 100000 in
theorem tx_arg {H : Type} {enc : TypeId × Value → H} {W : World} {fuel : Nat} {cs : List Value} {y : DataW H × List MemPlace} (h : DataW.trod enc Try.prog W 0 (fun _ => true) true fuel 29 cs = some y) (hz : ∀ n, n ∈ y.1.weights Try.prog 29 → n ≤ reachBytes) :
    ∃ x a c, cs = txl x a c ∧ x.tr.length * 24 ≤ 140737488351232 ∧ Cs W a (tfc x.tr) ∧ TxB x := by
  obtain ⟨y0, y1, y2, y3, y4, y5, n, hy, hl, t0, t1, t2, t3, t4, t5⟩ := trod_struct6 Try.underlying29 h
  have hc : Try.prog.cellsOf 29 = 6 := by kernel_rfl
  have hr : reachBytes = 140737488351232 := rfl
  rw [hc] at hl
  have hwt : ∀ n, n ∈ y0.1.weights Try.prog 9 ∨ n ∈ y4.1.weights Try.prog 9 ∨ n ∈ y5.1.weights Try.prog 27 → n ≤ reachBytes := fun n hn => hz n (by
    rw [hy]
    simp only [DataW.weights, Try.underlying29, DataW.weightsEach, List.map_cons, List.map_nil, List.mem_append]
    rcases hn with h | h | h
    · exact .inl h
    · exact .inr (.inr (.inr (.inr (.inl h))))
    · exact .inr (.inr (.inr (.inr (.inr (.inl h))))))
  match cs, hl with
  | [c0, c1, c2, c3, c4, c5], _ =>
    obtain ⟨s0, e0, d0, -⟩ := DataW.trod_string Try.underlying9 t0
    obtain ⟨n1, e1, -, w1⟩ := DataW.trod_int (k := .u64) Try.underlying26 t1
    obtain ⟨n2, e2, -, w2⟩ := DataW.trod_int (k := .u64) Try.underlying26 t2
    obtain ⟨n3, e3, -, w3⟩ := DataW.trod_int (k := .u64) Try.underlying26 t3
    obtain ⟨s4, e4, d4, -⟩ := DataW.trod_string Try.underlying9 t4
    obtain ⟨a, c, M, e5, hM, hcs, hxs⟩ := tfs_arg t5 (fun n hn => hwt n (.inr (.inr hn)))
    have k0 : Try.prog.cellsOf 9 = 1 := by kernel_rfl
    have k1 : Try.prog.cellsOf 26 = 1 := by kernel_rfl
    have k2 : Try.prog.cellsOf 27 = 1 := by kernel_rfl
    simp only [k0, k1, k2, List.drop_zero, List.drop_succ_cons, List.take_succ_cons, List.take_zero, List.cons.injEq, and_true] at e0 e1 e2 e3 e4 e5
    subst e0 e1 e2 e3 e4 e5
    have z0 := hwt s0.size (.inl (by rw [d0]; simp [DataW.weights]))
    have z4 := hwt s4.size (.inr (.inl (by rw [d4]; simp [DataW.weights])))
    exact ⟨⟨s0, n1, n2, n3, s4, M⟩, a, c, rfl, hM, hcs, ⟨u64_of_wf w1, u64_of_wf w2, u64_of_wf w3, fun x hx => (hxs x hx).1, by show s0.size ≤ _; omega, by show s4.size ≤ _; omega, fun x hx => (hxs x hx).2⟩⟩
end Go.Proofs.Ytaaeepanelmgnaa
