/-
  Arguments opened: a slice of bytes, a field, a slice of fields, as the readings give them.
  Conditions: none of their own.
-/
import Derived.Test.YtadngbpiepemjaaRows
import Derived.Test.YtadngbpiepemjaaH4
import Derived.ProofKit
import Derived.OpenShut
import Derived.ChangeOld
import Derived.Below
import Derived.Lib.SmallJoins
import Derived.Deep.Slices
namespace Go.Proofs.Ytadngbpiepemjaa
open Go.ChangeShapes Go.WideShapes Go.ChangeAt Go.RowKit Go.Deep Go.Joins

theorem byte_of_wf {x : Int} (h : (Lit.int .u8 x).wf = true) : W8 x := by
  simp [Lit.wf, IntKind.min, IntKind.max, IntKind.signed, IntKind.bits] at h
  exact ⟨by omega, by omega⟩
theorem word_of_wf {x : Int} (h : (Lit.int .u64 x).wf = true) : W64 x := by
  simp [Lit.wf, IntKind.min, IntKind.max, IntKind.signed, IntKind.bits] at h
  exact ⟨by omega, by omega⟩
theorem half_of_wf {x : Int} (h : (Lit.int .u16 x).wf = true) : 0 ≤ x ∧ x ≤ 65535 := by
  simp [Lit.wf, IntKind.min, IntKind.max, IntKind.signed, IntKind.bits] at h
  exact ⟨by omega, by omega⟩

/-! What the bound of the second form gives. -/
theorem bulk_one {H : Type} (d : DataW H) : 1 ≤ Rows.uptoBulk d := by
  cases d with
  | lit l => cases l <;> simp [Rows.uptoBulk]
  | nil => simp [Rows.uptoBulk]
  | ptr d => simp [Rows.uptoBulk]
  | slice e r => simp [Rows.uptoBulk]
  | agg p => simp [Rows.uptoBulk]
  | iface t d => simp [Rows.uptoBulk]
  | map e => simp [Rows.uptoBulk]
  | held h => simp [Rows.uptoBulk]
theorem bulk_len {H : Type} (l : List (DataW H)) : l.length ≤ Rows.uptoBulkAll l := by
  induction l with
  | nil => simp
  | cons d l ih => have := bulk_one d; simp only [List.length_cons, Rows.uptoBulkAll]; omega
theorem bulk_app {H : Type} (l r : List (DataW H)) : Rows.uptoBulkAll (l ++ r) = Rows.uptoBulkAll l + Rows.uptoBulkAll r := by
  induction l with
  | nil => simp [Rows.uptoBulkAll]
  | cons d l ih => simp only [List.cons_append, Rows.uptoBulkAll, ih]; omega
theorem lits_length {H : Type} (k : IntKind) (zs : List Int) : (lits (H := H) k zs).length = zs.length := by simp [lits]

section
variable {H : Type} {enc : TypeId × Value → H} {W : World} {fuel : Nat}
theorem bytes_arg {cs : List Value} {y : DataW H × List MemPlace} (h : DataW.trod enc Try.prog W 0 (fun _ => true) true fuel 22 cs = some y) :
    ∃ a cap L, cs = [.slice a L.length cap] ∧ L.length ≤ cap ∧ Sl W a cap L ∧ (∀ x, x ∈ L → W8 x) ∧ L.length + 1 ≤ Rows.uptoBulk y.1 := by
  rcases open_ints Try.underlying22 Try.underlying5 (by kernel_rfl) h with ⟨rfl, rfl⟩ | ⟨x, l, c, zs, rfl, _, hl, hm, hz, rfl, hcell, hwz⟩
  · exact ⟨none, 0, [], rfl, by simp, .inl ⟨rfl, rfl, rfl⟩, by simp, by simp [Rows.uptoBulk]⟩
  · have hz' : zs.length = c := by simpa using hz
    have hlen : (zs.take l).length = l := by rw [List.length_take]; omega
    refine ⟨some x, c, zs.take l, by rw [hlen], by omega, .inr ⟨x, rfl, fun k hk => ?_⟩, fun y hy => byte_of_wf (hwz y (List.mem_of_mem_take hy)), ?_⟩
    · obtain ⟨b, off, rfl, hc⟩ := ints_at hcell (by omega)
      refine ⟨b, off, rfl, ?_⟩
      rw [hc k (by omega), List.getD_eq_getElem?_getD, List.getD_eq_getElem?_getD, List.getElem?_take, if_pos (by omega)]
    · have := bulk_len (H := H) (lits .u8 (zs.take l))
      rw [lits_length] at this
      simp only [Rows.uptoBulk]
      omega

theorem field_arg {cs : List Value} {y : DataW H × List MemPlace} (h : DataW.trod enc Try.prog W 0 (fun _ => true) true fuel 25 cs = some y) :
    ∃ num kind val a cap B, cs = [.int .i64 num, .int .i64 kind, .int .u64 val, .slice a B.length cap] ∧ W64 val ∧ B.length ≤ cap ∧ Sl W a cap B ∧ (∀ x, x ∈ B → W8 x) ∧ B.length + 1 ≤ Rows.uptoBulk y.1 := by
  obtain ⟨y0, y1, y2, y3, n, rfl, hl, t0, t1, t2, t3⟩ := trod_struct4 Try.underlying25 h
  have hc : Try.prog.cellsOf 25 = 4 := by kernel_rfl
  rw [hc] at hl
  match cs, hl with
  | [c0, c1, c2, c3], _ =>
    obtain ⟨n0, e0, -, -⟩ := DataW.trod_int (k := .i64) Try.underlying3 t0
    obtain ⟨n1, e1, -, -⟩ := DataW.trod_int (k := .i64) Try.underlying3 t1
    obtain ⟨n2, e2, -, w2⟩ := DataW.trod_int (k := .u64) Try.underlying23 t2
    obtain ⟨a, cap, L, e3, h1, h2, h3, h4⟩ := bytes_arg t3
    have k3 : Try.prog.cellsOf 3 = 1 := by kernel_rfl
    have k23 : Try.prog.cellsOf 23 = 1 := by kernel_rfl
    have k22 : Try.prog.cellsOf 22 = 1 := by kernel_rfl
    simp only [k3, k23, k22, List.drop_zero, List.drop_succ_cons, List.take_succ_cons, List.take_zero, List.cons.injEq, and_true] at e0 e1 e2 e3
    subst e0 e1 e2 e3
    refine ⟨n0, n1, n2, a, cap, L, rfl, word_of_wf w2, h1, h2, h3, ?_⟩
    simp only [Rows.uptoBulk, Rows.uptoBulkAll]
    omega
/-- A list of what is there at each place. -/
theorem list_of {α : Type} {Q : Nat → α → Prop} (n : Nat) (h : ∀ i, i < n → ∃ p, Q i p) : ∃ ps : List α, ps.length = n ∧ ∀ i p, ps[i]? = some p → Q i p := by
  induction n with
  | zero => exact ⟨[], rfl, fun i p hi => by simp at hi⟩
  | succ n ih =>
    obtain ⟨ps, hl, hq⟩ := ih (fun i hi => h i (by omega))
    obtain ⟨p, hp⟩ := h n (by omega)
    refine ⟨ps ++ [p], by simp [hl], fun i q hi => ?_⟩
    by_cases hlt : i < n
    · rw [List.getElem?_append_left (by omega)] at hi
      exact hq i q hi
    · have hb := (List.getElem?_eq_some_iff.1 hi).1
      rw [List.length_append, List.length_singleton] at hb
      obtain rfl : i = n := by omega
      rw [List.getElem?_append_right (by omega), hl] at hi
      simp at hi
      exact hi ▸ hp
theorem bulk_range {H : Type} (D : Nat → DataW H) (n : Nat) (ps : List (Fld × Value)) (hl : ps.length = n) (h : ∀ i p, ps[i]? = some p → p.1.bytes.length + 1 ≤ Rows.uptoBulk (D i)) : bulkF ps ≤ Rows.uptoBulkAll ((List.range n).map D) := by
  induction n generalizing ps with
  | zero =>
    obtain rfl := List.eq_nil_of_length_eq_zero hl
    simp [bulkF]
  | succ n ih =>
    obtain ⟨qs, p, rfl⟩ : ∃ qs p, ps = qs ++ [p] := ⟨ps.dropLast, ps.getLast (by intro e; subst e; simp at hl), (List.dropLast_concat_getLast _).symm⟩
    rw [List.length_append, List.length_singleton] at hl
    have h1 := ih qs (by omega) (fun i q hq => h i q (by rw [List.getElem?_append_left (List.getElem?_eq_some_iff.1 hq).1]; exact hq))
    have h2 := h n p (by rw [List.getElem?_append_right (by omega), show n - qs.length = 0 by omega]; rfl)
    have h3 : bulkF (qs ++ [p]) = bulkF qs + (p.1.bytes.length + 1) := by simp [bulkF]; omega
    rw [List.range_succ, List.map_append, bulk_app, h3]
    simp only [List.map_cons, List.map_nil, Rows.uptoBulkAll]
    omega

theorem fields_arg {cs : List Value} {y : DataW H × List MemPlace} (h : DataW.trod enc Try.prog W 0 (fun _ => true) true fuel 28 cs = some y) :
    ∃ a cap ps, cs = [.slice a ps.length cap] ∧ ps.length ≤ cap ∧ Fs W a ps ∧ (∀ p, p ∈ ps → W64 p.1.val ∧ ∀ x, x ∈ p.1.bytes → W8 x) ∧ bulkF ps ≤ Rows.uptoBulk y.1 := by
  rcases open_slice Try.underlying28 h with ⟨rfl, rfl⟩ | ⟨a, len, cap, m, n, D, Pl, rfl, _, hl, hm, hmm, rfl, hi⟩
  · exact ⟨none, 0, [], rfl, by simp, fun i p hp => by simp at hp, by simp, by simp [bulkF]⟩
  · have hm' : m = cap := by simpa using hmm
    have hc : Try.prog.cellsOf 25 = 4 := by kernel_rfl
    obtain ⟨ps, hpl, hps⟩ := list_of (Q := fun i (p : Fld × Value) => (∃ b off ba bc, a = ⟨b, off, none⟩ ∧ p.2 = .slice ba p.1.bytes.length bc ∧ Sl W ba bc p.1.bytes ∧ Box W b (off + i * 4) p.1.num p.1.kind p.1.val ba p.1.bytes.length bc) ∧
        (W64 p.1.val ∧ ∀ x, x ∈ p.1.bytes → W8 x) ∧ p.1.bytes.length + 1 ≤ Rows.uptoBulk (D i)) len (by
      intro i hlt
      obtain ⟨cs', h1, h2⟩ := hi i (by omega)
      obtain ⟨num, kind, val, ba, bc, B, rfl, hv, hBc, hsB, hwB, hbu⟩ := field_arg h2
      rw [hc] at h1
      obtain ⟨_, _, hat⟩ := World.cells?_some h1
      refine ⟨(⟨num, kind, val, B⟩, .slice ba B.length bc), ?_, ⟨hv, hwB⟩, hbu⟩
      have hat' : ∀ j, j < 4 → W.cell? (a.add (i * 4 + j)) = [Value.int .i64 num, .int .i64 kind, .int .u64 val, .slice ba B.length bc][j]? := fun j hj => by
        rw [← add_add]
        exact hat j hj
      obtain ⟨b, off, spot⟩ := a
      have hspot : spot = none := by
        obtain ⟨cs0, g1, g2⟩ := hi 0 (by omega)
        obtain ⟨num0, _, _, _, _, _, rfl, _⟩ := field_arg g2
        rw [hc] at g1
        have h0 := (World.cells?_some g1).2.2 0 (by omega)
        simpa [Addr.add] using World.cell?_spot (v := .int .i64 num0) h0
      subst hspot
      refine ⟨b, off, ba, bc, rfl, rfl, hsB, ?_, ?_, ?_, ?_⟩
      · have h0 := hat' 0 (by omega)
        rw [Go.WideShapes.add_plain] at h0
        exact h0
      · have h0 := hat' 1 (by omega)
        rw [Go.WideShapes.add_plain, ← Nat.add_assoc] at h0
        exact h0
      · have h0 := hat' 2 (by omega)
        rw [Go.WideShapes.add_plain, ← Nat.add_assoc] at h0
        exact h0
      · have h0 := hat' 3 (by omega)
        rw [Go.WideShapes.add_plain, ← Nat.add_assoc] at h0
        exact h0)
    refine ⟨some a, cap, ps, by rw [hpl], by omega, fun i p hp => ?_, fun p hp => ?_, ?_⟩
    · obtain ⟨⟨b, off, ba, bc, rfl, h1, h2, h3⟩, -, -⟩ := hps i p hp
      exact ⟨b, off, ba, bc, rfl, h1, h2, h3⟩
    · obtain ⟨i, hi'⟩ := List.getElem?_of_mem hp
      exact (hps i p hi').2.1
    · have := bulk_range D len ps hpl (fun i p hp => (hps i p hp).2.2)
      simp only [Rows.uptoBulk]
      omega
end
end Go.Proofs.Ytadngbpiepemjaa
