/-
  Lengths of transactions' fields; cuts of rows of fields; one number written; appends that keep what lies apart.
-/
import Derived.Test.YtaaeepanelmgnaaFL
namespace Go.Proofs.Ytaaeepanelmgnaa
open Go.RowKit
set_option linter.unusedSimpArgs false
set_option linter.unusedVariables false

theorem txF_len (t : Txd) : (txF t).length ≤ 5 + t.tr.length := by
  have q1 : ∀ k s, (tF k s).length ≤ 1 := fun k s => by unfold tF; split <;> simp
  have q2 : ∀ k v, (nF k v).length ≤ 1 := fun k v => by unfold nF; split <;> simp
  unfold txF
  have a1 := q1 1 t.snd
  have a2 := q2 2 t.sq
  have a3 := q2 3 t.gas
  have a4 := q2 4 t.fee
  have a5 := q1 5 t.memo
  simp only [List.length_append, List.length_map]
  omega
theorem enc_bd (f : Fld) : (encF f).length ≤ 20 + f.bytes.length := by
  unfold encF encI
  have h1 := (Enc_len (8 * f.num + f.kind)).2
  have h2 := (Enc_len (secI f.kind f.val f.bytes.length)).2
  simp only [List.length_append]
  omega
theorem msg_bd {K : Nat} : ∀ P : List Fld, (∀ f, f ∈ P → f.bytes.length ≤ K) → (msg P).length ≤ P.length * (20 + K)
  | [], _ => by simp [msg]
  | f :: r, h => by
    have h1 := enc_bd f
    have h2 := h f (by simp)
    have h3 := msg_bd r (fun g hg => h g (by simp [hg]))
    rw [msg_cons, List.length_append, List.length_cons, Nat.add_mul]
    omega
theorem bytes_le_msg : ∀ (P : List Fld) (f : Fld), f ∈ P → f.bytes.length ≤ (msg P).length
  | g :: r, f, h => by
    rw [msg_cons, List.length_append]
    rcases List.mem_cons.1 h with rfl | h
    · unfold encF encI
      simp only [List.length_append]
      omega
    · have := bytes_le_msg r f h
      omega
theorem row4_take : ∀ (ps : List (Fld × Value)) (k : Nat), row4 (ps.take k) = (row4 ps).take (k * 4)
  | _, 0 => by simp [row4]
  | [], k + 1 => by simp [row4]
  | p :: r, k + 1 => by
    rw [List.take_succ_cons, row4_cons, row4_cons, row4_take r k, show (k + 1) * 4 = k * 4 + 4 by omega]
    rfl
theorem row4_drop : ∀ (ps : List (Fld × Value)) (k : Nat), row4 (ps.drop k) = (row4 ps).drop (k * 4)
  | ps, 0 => by simp
  | [], k + 1 => by simp [row4]
  | p :: r, k + 1 => by
    rw [List.drop_succ_cons, row4_cons, row4_drop r k, show (k + 1) * 4 = k * 4 + 4 by omega]
    rfl
theorem cs_take {w : World} {a : Option Addr} {cs : List Value} (h : Cs w a cs) (n : Nat) : Cs w a (cs.take n) := fun j v hj => by
  rw [List.getElem?_take] at hj
  split at hj
  · exact h j v hj
  · cases hj
theorem cs_l_to {w : World} {a : Option Addr} {ps : List (Fld × Value)} (h : Cs w a (row4 ps)) (k : Nat) : Cs w a (row4 (ps.take k)) := by rw [row4_take]; exact cs_take h _
theorem cs_l_from {w : World} {a : Option Addr} {ps : List (Fld × Value)} (h : Cs w a (row4 ps)) (c k : Nat) (hc : ps.length ≤ c) : Cs w (fromS 4 a c k) (row4 (ps.drop k)) := by
  rw [row4_drop]
  exact h.from 4 c k (by rw [row4_length]; omega)
theorem cut_f_to (a : Option Addr) (n c k : Nat) (w : World) (h : k ≤ c) : (Instr.slice 50 (.slice a n c) none (some (.int .i64 (k : Int))) none).run Try.prog w = .ok (.slice a k c) w :=
  cut_to (s := 4) (by kernel_rfl) (fun w => by kernel_rfl) a n c k w h
set_option maxRecDepth 100000 in
theorem at_f_to (a : Option Addr) (n c k : Nat) (w : World) (h : k ≤ c) : (Instr.sliceAt 50 (.slice a n c) none (some (.int .i64 (k : Int))) none).run Try.prog w = .ok (.slice a k c) w := cut_f_to a n c k w h
set_option maxRecDepth 100000 in
theorem at_f_from (a : Option Addr) (n c k : Nat) (w : World) (h : k ≤ n) : (Instr.sliceAt 50 (.slice a n c) (some (.int .i64 (k : Int))) none none).run Try.prog w = .ok (.slice (fromS 4 a c k) (n - k) (c - k)) w := cut_f_from a n c k w h
theorem row4_num : ∀ (ps : List (Fld × Value)) (i : Nat) (p : Fld × Value) (z : Int), ps[i]? = some p → (row4 ps).set (i * 4) (.int .i64 z) = row4 (ps.set i ({ p.1 with num := z }, p.2))
  | p :: r, 0, q, z, h => by
    simp only [List.getElem?_cons_zero, Option.some.injEq] at h
    subst h
    rw [List.set_cons_zero, row4_cons, row4_cons]
    rfl
  | p :: r, i + 1, q, z, h => by
    have h1 := row4_num r i q z (by simpa using h)
    rw [List.set_cons_succ, row4_cons, row4_cons, ← h1, show (i + 1) * 4 = i * 4 + 4 by omega]
    rfl
/-- One number is written. -/
theorem set_num {w : World} {B g n c i : Nat} {ps : List (Fld × Value)} (h : RowL w B (.slice (some ⟨g, 0, none⟩) n c) ps) (hn : n = ps.length) {p : Fld × Value} (hi : ps[i]? = some p) (z : Int) :
    ∃ V2, (Instr.storeAt 3 (.pointer (some ⟨g, 0 + i * 4, none⟩)) (.int .i64 z)).run Try.prog w = .ok () V2 ∧ RowL V2 B (.slice (some ⟨g, 0, none⟩) n c) (ps.set i ({ p.1 with num := z }, p.2)) ∧ Below B w V2 := by
  subst hn
  have hlt : i < ps.length := (List.getElem?_eq_some_iff.1 hi).1
  obtain ⟨cur, hcur, hz, hge, -⟩ := own_blk h.1
  have hst := run_store_cell hcur (i := i * 4) (by omega) (v := .int .i64 z) (ty := 3) rfl (by kernel_rfl)
  have hb : Below B w (w.setCell ⟨g, i * 4, none⟩ (.int .i64 z)) := (Below.refl B w).setCell hge _
  have ho := own_set h.1 (i * 4) (.int .i64 z) (by rw [row4_length]; omega)
  rw [Nat.zero_add]
  refine ⟨_, hst, ⟨?_, fun q hq => ?_⟩, hb⟩
  · rw [List.length_set, ← row4_num ps i p z hi]
    exact ho
  · rcases List.mem_or_eq_of_mem_set hq with h9 | h9
    · exact (h.2 q h9).far hb
    · rw [h9]
      exact Lo.far (h.2 p (List.mem_of_getElem? hi)) hb
/-- 'append' of fields: what lies apart from the old row stays; where the new row lies. -/
theorem grow_lg {w : World} {B : Nat} {v : Value} {A M : List (Fld × Value)} (h : RowL w B v A) (hB : B ≤ w.heap.size) (pa : Option Addr) (cp : Nat) (hP : Cs w pa (row4 M)) (hM : ∀ p, p ∈ M → Lo w B p) (hl : A.length + M.length ≤ 100000) :
    ∃ v2 V2, (Builtin.append_ #[50, 50] 50 #[v, .slice pa M.length cp]).run Try.prog w = .ok v2 V2 ∧ RowL V2 B v2 (A ++ M) ∧ Below B w V2 ∧ w.grownBy V2 v.ownBlock ∧ (v2.ownBlock = v.ownBlock ∨ v2.ownBlock = some w.heap.size) := by
  obtain ⟨i0, hi, hz0, hz1, hz2⟩ := info_parts info25
  cases pa with
  | none =>
    have hM0 : M = [] := by
      cases M with
      | nil => rfl
      | cons y r =>
        obtain ⟨b, off, e, -⟩ := hP 0 (.int .i64 y.1.num) rfl
        cases e
    subst hM0
    refine ⟨v, w, ?_, by rw [List.append_nil]; exact h, Below.refl _ _, World.grownBy.refl _ _, .inl rfl⟩
    rcases h.1.2 with ⟨rfl, h0⟩ | ⟨g, cap, cur, rfl, _, _, hnc, _⟩
    · simp [Builtin.append_, run_underlying Try.underlying50, sizeOf, typeInfo, hi, Builtin.lenOf, Builtin.firstCells]
    · simp [Builtin.append_, run_underlying Try.underlying50, sizeOf, typeInfo, hi, Builtin.lenOf, Builtin.firstCells, hnc, storeCells]
  | some x =>
    have hx : ∀ j u, (row4 M)[j]? = some u → w.cell? (x.add j) = some u := fun j u hu => by
      obtain ⟨b, off, e, -, hc⟩ := hP j u hu
      cases e
      rw [Addr.add_mid]
      exact hc
    obtain ⟨v2, V2, hr, hO2, hg, -, hat⟩ := run_append_own_at (P := Try.prog) w B 50 50 54 i0 _ 4 48 Try.underlying50 hi hz0 hz1 hz2 (by kernel_rfl) (by omega) v A.length (row4 A) h.1 x M.length cp (row4 M) (row4_length M) hx (row4_one hM) (by unfold maxLen; omega) (by omega) hB
    have hb : Below B w V2 := (Below.refl _ w).grown hg hB fun j hj => (World.ownsRow.lt h.1 j hj).1
    exact ⟨v2, V2, hr, ⟨by rw [row4_app, List.length_append]; exact hO2, fun p hp => (List.mem_append.1 hp).elim (fun h9 => (h.2 p h9).far hb) (fun h9 => (hM p h9).far hb)⟩, hb, hg, hat⟩
end Go.Proofs.Ytaaeepanelmgnaa
