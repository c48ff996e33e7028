/-
 Arguments opened: a slice of ints (within reach, or with the bound of the second form), a slice of entries with that bound.
-/
import Derived.Test.YtgkckblcekbafaaRows
import Derived.Test.YtgkckblcekbafaaWC
import Derived.ProofKit
import Derived.OpenShut
import Derived.ChangeOld
import Derived.Below
import Derived.SizedLaws
import Derived.Deep.Slices
namespace Go.Proofs.Ytgkckblcekbafaa
open Go.ChangeShapes Go.WideShapes Go.ChangeAt Go.RowKit Go.Deep Go.Joins
set_option linter.unusedVariables false
theorem i64_of_wf {x : Int} (h : (Lit.int .i64 x).wf = true) : -9223372036854775808 ≤ x ∧ x < 9223372036854775808 := by
 simp [Lit.wf, IntKind.min, IntKind.max, IntKind.signed, IntKind.bits] at h
 exact ⟨by omega, by omega⟩
theorem u8_of_wf {x : Int} (h : (Lit.int .u8 x).wf = true) : 0 ≤ x ∧ x ≤ 255 := by
 simp [Lit.wf, IntKind.min, IntKind.max, IntKind.signed, IntKind.bits] at h
 exact ⟨by omega, by omega⟩
theorem size_list (x : ByteArray) : x.data.toList.length = x.size := Array.length_toList
theorem bulk_one {H : Type} (d : DataW H) : 1 ≤ Rows.uptoBulk d := by
  cases d with
  | lit l => cases l <;> simp [Rows.uptoBulk]
  | nil => simp [Rows.uptoBulk]
  | ptr d => simp [Rows.uptoBulk]
  | slice e r => simp [Rows.uptoBulk]
  | agg p => simp [Rows.uptoBulk]
  | iface t d => simp [Rows.uptoBulk]
  | map e => simp [Rows.uptoBulk]
  | held h => simp [Rows.uptoBulk]
theorem bulk_app {H : Type} (l r : List (DataW H)) : Rows.uptoBulkAll (l ++ r) = Rows.uptoBulkAll l + Rows.uptoBulkAll r := by
  induction l with
  | nil => simp [Rows.uptoBulkAll]
  | cons d l ih => simp only [List.cons_append, Rows.uptoBulkAll, ih]; omega
theorem bulk_lits {H : Type} (k : IntKind) (L : List Int) : Rows.uptoBulkAll (lits (H := H) k L) = L.length := by
  unfold lits
  induction L with
  | nil => simp [Rows.uptoBulkAll]
  | cons x L ih => simp only [List.map_cons, Rows.uptoBulkAll, Rows.uptoBulk, ih, List.length_cons]; omega
theorem bulk_range {H : Type} (D : Nat → DataW H) (n : Nat) (ps : List (En × Ad)) (hl : ps.length = n) (h : ∀ i p, ps[i]? = some p → szE p.1 + 4 ≤ Rows.uptoBulk (D i)) : szL (lE ps) + ps.length * 4 ≤ Rows.uptoBulkAll ((List.range n).map D) := by
  induction n generalizing ps with
  | zero =>
    obtain rfl := List.eq_nil_of_length_eq_zero hl
    simp [szL, lE]
  | succ n ih =>
    obtain ⟨qs, p, rfl⟩ : ∃ qs p, ps = qs ++ [p] := ⟨ps.dropLast, ps.getLast (by intro e; subst e; simp at hl), (List.dropLast_concat_getLast _).symm⟩
    rw [List.length_append, List.length_singleton] at hl
    have h1 := ih qs (by omega) (fun i q hq => h i q (by rw [List.getElem?_append_left (List.getElem?_eq_some_iff.1 hq).1]; exact hq))
    have h2 := h n p (by rw [List.getElem?_append_right (by omega), show n - qs.length = 0 by omega]; rfl)
    have h3 : szL (lE (qs ++ [p])) = szL (lE qs) + szE p.1 := by unfold lE; rw [List.map_append, sz_app]; simp [szL]
    rw [List.range_succ, List.map_append, bulk_app, h3, List.length_append, List.length_singleton]
    simp only [List.map_cons, List.map_nil, Rows.uptoBulkAll]
    omega
set_option maxRecDepth 100000 in
theorem ints_arg {H : Type} {enc : TypeId × Value → H} {W : World} {fuel : Nat} {cs : List Value} {y : DataW H × List MemPlace} (h : DataW.trod enc Try.prog W 0 (fun _ => true) true fuel 23 cs = some y) (hz : ∀ n, n ∈ y.1.weights Try.prog 23 → n ≤ reachBytes) :
    ∃ a cap L, cs = [.slice a (List.length L) cap] ∧ L.length * 8 ≤ 140737488351232 ∧ Cs W a (icells L) := by
 rcases open_ints Try.underlying23 Try.underlying3 (by kernel_rfl) h with ⟨rfl, rfl⟩ | ⟨x, l, c, zs, rfl, _, hl, hm, hzl, rfl, hcell, hwz⟩
 · exact ⟨none, 0, [], rfl, by simp, Cs.nil _ _⟩
 · have hz' : zs.length = c := by simpa using hzl
   have hlen : (zs.take l).length = l := by rw [List.length_take]; omega
   have h8 : Try.prog.bytesOf 3 = 8 := by kernel_rfl
   have hr : reachBytes = 140737488351232 := rfl
   have hw := hz (((lits (H := H) .i64 (zs.take l)).length + (lits (H := H) .i64 (zs.drop l)).length) * 8) (by simp [DataW.weights, Try.underlying23, h8])
   have e1 : (lits (H := H) .i64 (zs.take l)).length = l := by unfold lits; rw [List.length_map]; exact hlen
   refine ⟨some x, c, zs.take l, by rw [hlen], by rw [hlen]; rw [hr, e1] at hw; omega, fun j v hj => ?_⟩
   have hjl : j < (zs.take l).length := by
    have := (List.getElem?_eq_some_iff.1 hj).1
    simpa [icells] using this
   have hjz : j < zs.length := by omega
   obtain ⟨b, off, rfl, hc⟩ := ints_at hcell (by omega)
   rw [icells_at _ _ hjl] at hj
   simp only [Option.some.injEq] at hj
   have hcj := hc j hjz
   refine ⟨b, off, rfl, World.block_lt_of_cell? W _ hcj, ?_⟩
   rw [hcj, ← hj]
   simp [List.getD, show j < l by omega]
set_option maxRecDepth 100000 in
theorem ints_up {H : Type} {enc : TypeId × Value → H} {W : World} {fuel : Nat} {cs : List Value} {y : DataW H × List MemPlace} (h : DataW.trod enc Try.prog W 0 (fun _ => true) true fuel 23 cs = some y) :
    ∃ a cap L, cs = [.slice a (List.length L) cap] ∧ L.length ≤ cap ∧ L.length ≤ 9223372036854775807 ∧ Cs W a (icells L) ∧ L.length + 1 ≤ Rows.uptoBulk y.1 := by
 rcases open_ints Try.underlying23 Try.underlying3 (by kernel_rfl) h with ⟨rfl, rfl⟩ | ⟨x, l, c, zs, rfl, _, hl, hm, hzl, rfl, hcell, hwz⟩
 · exact ⟨none, 0, [], rfl, by simp, by simp, Cs.nil _ _, bulk_one _⟩
 · have hz' : zs.length = c := by simpa using hzl
   have hlen : (zs.take l).length = l := by rw [List.length_take]; omega
   refine ⟨some x, c, zs.take l, by rw [hlen], by rw [hlen]; omega, by rw [hlen]; unfold maxLen at hm; omega, fun j v hj => ?_, by simp only [Rows.uptoBulk, bulk_lits]; omega⟩
   have hjl : j < (zs.take l).length := by
    have := (List.getElem?_eq_some_iff.1 hj).1
    simpa [icells] using this
   have hjz : j < zs.length := by omega
   obtain ⟨b, off, rfl, hc⟩ := ints_at hcell (by omega)
   rw [icells_at _ _ hjl] at hj
   simp only [Option.some.injEq] at hj
   have hcj := hc j hjz
   refine ⟨b, off, rfl, World.block_lt_of_cell? W _ hcj, ?_⟩
   rw [hcj, ← hj]
   simp [List.getD, show j < l by omega]
set_option maxRecDepth 100000 in
theorem bytes_up {H : Type} {enc : TypeId × Value → H} {W : World} {fuel : Nat} {cs : List Value} {y : DataW H × List MemPlace} (h : DataW.trod enc Try.prog W 0 (fun _ => true) true fuel 48 cs = some y) :
    ∃ a cap L, cs = [.slice a (List.length L) cap] ∧ L.length ≤ cap ∧ Sl W a cap L ∧ L.length + 1 ≤ Rows.uptoBulk y.1 := by
 rcases open_ints Try.underlying48 Try.underlying5 (by kernel_rfl) h with ⟨rfl, rfl⟩ | ⟨x, l, c, zs, rfl, _, hl, hm, hzl, rfl, hcell, hwz⟩
 · exact ⟨none, 0, [], rfl, by simp, .inl ⟨rfl, rfl, rfl⟩, bulk_one _⟩
 · have hz' : zs.length = c := by simpa using hzl
   have hlen : (zs.take l).length = l := by rw [List.length_take]; omega
   refine ⟨some x, c, zs.take l, by rw [hlen], by rw [hlen]; omega, .inr ⟨x, rfl, fun k hk => ?_⟩, by simp only [Rows.uptoBulk, bulk_lits]; omega⟩
   obtain ⟨b, off, rfl, hc⟩ := ints_at hcell (by omega)
   refine ⟨b, off, rfl, ?_⟩
   rw [hc k (by omega), List.getD_eq_getElem?_getD, List.getD_eq_getElem?_getD, List.getElem?_take, if_pos (by omega)]
/-- A list of what is there at each place. -/
theorem list_of {α : Type} {Q : Nat → α → Prop} (n : Nat) (h : ∀ i, i < n → ∃ p, Q i p) : ∃ ps : List α, ps.length = n ∧ ∀ i p, ps[i]? = some p → Q i p := by
  induction n with
  | zero => exact ⟨[], rfl, fun i p hi => by simp at hi⟩
  | succ n ih =>
    obtain ⟨ps, hl, hq⟩ := ih (fun i hi => h i (by omega))
    obtain ⟨p, hp⟩ := h n (by omega)
    refine ⟨ps ++ [p], by simp [hl], fun i q hi => ?_⟩
    by_cases hlt : i < n
    · rw [List.getElem?_append_left (by omega)] at hi
      exact hq i q hi
    · have hb := (List.getElem?_eq_some_iff.1 hi).1
      rw [List.length_append, List.length_singleton] at hb
      obtain rfl : i = n := by omega
      rw [List.getElem?_append_right (by omega), hl] at hi
      simp at hi
      exact hi ▸ hp

section
variable {H : Type} {enc : TypeId × Value → H} {W : World} {fuel : Nat}
theorem key_arg {cs : List Value} {y : DataW H × List MemPlace} (h : DataW.trod enc Try.prog W 0 (fun _ => true) true fuel 47 cs = some y) :
    ∃ K : List Int, cs = K.map (Value.int .u8) ∧ K.length = 32 := by
  obtain ⟨xs, m, rfl, rfl, hl, hxl, hi⟩ := DataW.trod_array (n := 32) (e := 5) (by kernel_rfl) h
  have hc25 : Try.prog.cellsOf 47 = 32 := by kernel_rfl
  have hc5 : Try.prog.cellsOf 5 = 1 := by kernel_rfl
  rw [hc25] at hl
  obtain ⟨K, hKl, hK⟩ := list_of (Q := fun i (z : Int) => cs[i]? = some (.int .u8 z)) 32 (fun i hlt => by
    have h1 := hi i hlt
    rw [hc5, Nat.mul_one, List.getElem?_eq_getElem (by omega)] at h1
    obtain ⟨z, ez, -, wz⟩ := DataW.trod_int (k := .u8) Try.underlying5 h1
    refine ⟨z, ?_⟩
    have h2 : ((cs.drop i).take 1)[0]? = some (.int .u8 z) := by rw [ez]; rfl
    rw [List.getElem?_take, if_pos (by omega), List.getElem?_drop, Nat.add_zero] at h2
    exact h2)
  refine ⟨K, ?_, hKl⟩
  apply List.ext_getElem?
  intro i
  by_cases hlt : i < 32
  · have hk := hK i (K[i]'(by omega)) (List.getElem?_eq_getElem (by omega))
    rw [hk, List.getElem?_map, List.getElem?_eq_getElem (by omega)]
    rfl
  · rw [List.getElem?_eq_none (by omega), List.getElem?_eq_none (by rw [List.length_map]; omega)]
end
theorem kcl_of {K : List Int} (h : K.length = 32) : K.map (Value.int .u8) = kcl (fun i => K.getD i 0) := by
  have e : kcl (fun i => K.getD i 0) = (List.range 32).map fun i => Value.int .u8 (K.getD i 0) := rfl
  rw [e]
  apply List.ext_getElem?
  intro i
  by_cases hi : i < 32
  · rw [List.getElem?_map, List.getElem?_map, List.getElem?_range hi, List.getElem?_eq_getElem (show i < K.length by omega)]
    simp [List.getElem?_eq_getElem (show i < K.length by omega), List.getD_eq_getElem?_getD]
  · rw [List.getElem?_eq_none (by rw [List.length_map]; omega), List.getElem?_eq_none (by simp; omega)]
theorem drop_pl {α : Type} {u T : List α} {n : Nat} (k : Nat) (h : u.length = n) : (u ++ T).drop (n + k) = T.drop k := by
  subst h
  rw [List.drop_append, List.drop_of_length_le (by omega), List.nil_append, Nat.add_sub_cancel_left]
section
variable {H : Type} {enc : TypeId × Value → H}
theorem trod_struct10 {P : Program} {w : World} {base : Nat} {spare : Nat → Bool} {held : Bool} {t : TypeId} {f0 f1 f2 f3 f4 f5 f6 f7 f8 f9 : Field} {fuel : Nat} {cs : List Value} {x : DataW H × List MemPlace} (ht : P.underlying t = some (.struct #[f0, f1, f2, f3, f4, f5, f6, f7, f8, f9])) (h : DataW.trod enc P w base spare held fuel t cs = some x) :
    ∃ y0 y1 y2 y3 y4 y5 y6 y7 y8 y9 n, x.1 = .agg [y0.1, y1.1, y2.1, y3.1, y4.1, y5.1, y6.1, y7.1, y8.1, y9.1] ∧ cs.length = P.cellsOf t ∧ DataW.trod enc P w base spare held n f0.type ((cs.drop f0.offset).take (P.cellsOf f0.type)) = some y0 ∧ DataW.trod enc P w base spare held n f1.type ((cs.drop f1.offset).take (P.cellsOf f1.type)) = some y1 ∧ DataW.trod enc P w base spare held n f2.type ((cs.drop f2.offset).take (P.cellsOf f2.type)) = some y2 ∧ DataW.trod enc P w base spare held n f3.type ((cs.drop f3.offset).take (P.cellsOf f3.type)) = some y3 ∧ DataW.trod enc P w base spare held n f4.type ((cs.drop f4.offset).take (P.cellsOf f4.type)) = some y4 ∧ DataW.trod enc P w base spare held n f5.type ((cs.drop f5.offset).take (P.cellsOf f5.type)) = some y5 ∧ DataW.trod enc P w base spare held n f6.type ((cs.drop f6.offset).take (P.cellsOf f6.type)) = some y6 ∧ DataW.trod enc P w base spare held n f7.type ((cs.drop f7.offset).take (P.cellsOf f7.type)) = some y7 ∧ DataW.trod enc P w base spare held n f8.type ((cs.drop f8.offset).take (P.cellsOf f8.type)) = some y8 ∧ DataW.trod enc P w base spare held n f9.type ((cs.drop f9.offset).take (P.cellsOf f9.type)) = some y9 := by
  obtain ⟨xs, n, _, rfl, hl, hlen, hf⟩ := DataW.trod_struct ht h
  match xs, hlen with
  | [y0, y1, y2, y3, y4, y5, y6, y7, y8, y9], _ => exact ⟨y0, y1, y2, y3, y4, y5, y6, y7, y8, y9, n, by simp, hl, by simpa using hf 0 f0 rfl, by simpa using hf 1 f1 rfl, by simpa using hf 2 f2 rfl, by simpa using hf 3 f3 rfl, by simpa using hf 4 f4 rfl, by simpa using hf 5 f5 rfl, by simpa using hf 6 f6 rfl, by simpa using hf 7 f7 rfl, by simpa using hf 8 f8 rfl, by simpa using hf 9 f9 rfl⟩
set_option maxRecDepth 100000 in
theorem en_up {W : World} {fuel : Nat} {cs : List Value} {y : DataW H × List MemPlace} (h : DataW.trod enc Try.prog W 0 (fun _ => true) true fuel 50 cs = some y) : ∃ x : En × Ad, cs = enp x ∧ EnI W x.1 x.2 ∧ szE x.1 + 4 ≤ Rows.uptoBulk y.1 := by
  obtain ⟨y0, y1, y2, y3, y4, y5, y6, y7, y8, y9, n, hy, hl, t0, t1, t2, t3, t4, t5, t6, t7, t8, t9⟩ := trod_struct10 Try.underlying50 h
  have hc : Try.prog.cellsOf 50 = 41 := by kernel_rfl
  rw [hc] at hl
  obtain ⟨u, R, rfl, hu, hR⟩ : ∃ u R, cs = u ++ R ∧ u.length = 32 ∧ R.length = 9 := ⟨cs.take 32, cs.drop 32, (List.take_append_drop 32 cs).symm, by rw [List.length_take]; omega, by rw [List.length_drop]; omega⟩
  match R, hR with
  | [c0, c1, c2, c3, c4, c5, c6, c7, c8], _ =>
    obtain ⟨K, e0, hK⟩ := key_arg t0
    obtain ⟨a1, p1, L1, e1, l1, r1, b1⟩ := bytes_up t1
    obtain ⟨s2, e2, d2, -⟩ := DataW.trod_string Try.underlying9 t2
    obtain ⟨n3, e3, -, -⟩ := DataW.trod_int (k := .u64) Try.underlying33 t3
    obtain ⟨n4, e4, -, -⟩ := DataW.trod_int (k := .u64) Try.underlying33 t4
    obtain ⟨n5, e5, -, -⟩ := DataW.trod_int (k := .u64) Try.underlying33 t5
    obtain ⟨n6, e6, -, -⟩ := DataW.trod_int (k := .i64) Try.underlying3 t6
    obtain ⟨n7, e7, -, -⟩ := DataW.trod_int (k := .i64) Try.underlying3 t7
    obtain ⟨n8, e8, -, -⟩ := DataW.trod_int (k := .i64) Try.underlying3 t8
    obtain ⟨a9, p9, L9, e9, l9, -, r9, b9⟩ := ints_up t9
    have k0 : Try.prog.cellsOf 47 = 32 := by kernel_rfl
    have k1 : Try.prog.cellsOf 48 = 1 := by kernel_rfl
    have k2 : Try.prog.cellsOf 9 = 1 := by kernel_rfl
    have k3 : Try.prog.cellsOf 33 = 1 := by kernel_rfl
    have k4 : Try.prog.cellsOf 3 = 1 := by kernel_rfl
    have k5 : Try.prog.cellsOf 23 = 1 := by kernel_rfl
    have g0 : u = K.map (Value.int .u8) := by
      have q : ((u ++ [c0, c1, c2, c3, c4, c5, c6, c7, c8]).drop 0).take 32 = K.map (Value.int .u8) := by simpa only [k0] using e0
      rw [List.drop_zero, List.take_append_of_le_length (by omega), List.take_of_length_le (by omega)] at q
      exact q
    have g1 : c0 = .slice a1 L1.length p1 := by
      have q : ((u ++ [c0, c1, c2, c3, c4, c5, c6, c7, c8]).drop (32 + 0)).take 1 = [.slice a1 L1.length p1] := by simpa only [k1] using e1
      rw [drop_pl _ hu] at q
      simpa using q
    have g2 : c1 = .string s2 := by
      have q : ((u ++ [c0, c1, c2, c3, c4, c5, c6, c7, c8]).drop (32 + 1)).take 1 = [.string s2] := by simpa only [k2] using e2
      rw [drop_pl _ hu] at q
      simpa using q
    have g3 : c2 = .int .u64 n3 := by
      have q : ((u ++ [c0, c1, c2, c3, c4, c5, c6, c7, c8]).drop (32 + 2)).take 1 = [.int .u64 n3] := by simpa only [k3] using e3
      rw [drop_pl _ hu] at q
      simpa using q
    have g4 : c3 = .int .u64 n4 := by
      have q : ((u ++ [c0, c1, c2, c3, c4, c5, c6, c7, c8]).drop (32 + 3)).take 1 = [.int .u64 n4] := by simpa only [k3] using e4
      rw [drop_pl _ hu] at q
      simpa using q
    have g5 : c4 = .int .u64 n5 := by
      have q : ((u ++ [c0, c1, c2, c3, c4, c5, c6, c7, c8]).drop (32 + 4)).take 1 = [.int .u64 n5] := by simpa only [k3] using e5
      rw [drop_pl _ hu] at q
      simpa using q
    have g6 : c5 = .int .i64 n6 := by
      have q : ((u ++ [c0, c1, c2, c3, c4, c5, c6, c7, c8]).drop (32 + 5)).take 1 = [.int .i64 n6] := by simpa only [k4] using e6
      rw [drop_pl _ hu] at q
      simpa using q
    have g7 : c6 = .int .i64 n7 := by
      have q : ((u ++ [c0, c1, c2, c3, c4, c5, c6, c7, c8]).drop (32 + 6)).take 1 = [.int .i64 n7] := by simpa only [k4] using e7
      rw [drop_pl _ hu] at q
      simpa using q
    have g8 : c7 = .int .i64 n8 := by
      have q : ((u ++ [c0, c1, c2, c3, c4, c5, c6, c7, c8]).drop (32 + 7)).take 1 = [.int .i64 n8] := by simpa only [k4] using e8
      rw [drop_pl _ hu] at q
      simpa using q
    have g9 : c8 = .slice a9 L9.length p9 := by
      have q : ((u ++ [c0, c1, c2, c3, c4, c5, c6, c7, c8]).drop (32 + 8)).take 1 = [.slice a9 L9.length p9] := by simpa only [k5] using e9
      rw [drop_pl _ hu] at q
      simpa using q
    have hz := size_list s2
    refine ⟨(⟨fun i => K.getD i 0, L1, s2, n3, n4, n5, n6, n7, n8, L9⟩, ⟨a1, p1, a9, p9⟩), ?_, ⟨r1, r9, l1, l9⟩, ?_⟩
    · subst g1 g2 g3 g4 g5 g6 g7 g8 g9
      rw [g0, kcl_of hK]
      rfl
    · rw [hy]
      simp only [Rows.uptoBulk, Rows.uptoBulkAll, szE, d2]
      dsimp only at *
      omega
theorem ens_inv {X : List (En × Ad)} {j : Nat} {v : Value} (h : (ens X)[j]? = some v) : j / 41 < X.length ∧ (enp (X.getD (j / 41) zEA))[j % 41]? = some v := by
  have hj : j < X.length * 41 := by
    have := (List.getElem?_eq_some_iff.1 h).1
    rwa [ens_len] at this
  have hk : j / 41 < X.length := by omega
  refine ⟨hk, ?_⟩
  have h1 := fl_at enp enp_len zEA X (j / 41) (j % 41) hk (by omega)
  rw [show j / 41 * 41 + j % 41 = j by omega] at h1
  rw [← h1]
  exact h
set_option maxRecDepth 100000 in
theorem ens_up {W : World} {fuel : Nat} {cs : List Value} {y : DataW H × List MemPlace} (h : DataW.trod enc Try.prog W 0 (fun _ => true) true fuel 22 cs = some y) :
    ∃ a cap X, cs = [.slice a (List.length X) cap] ∧ Xr W a X ∧ szL (lE X) + X.length * 4 ≤ Rows.uptoBulk y.1 := by
  rcases open_slice Try.underlying22 h with ⟨rfl, rfl⟩ | ⟨a, len, cap, m, n, D, Pl, rfl, _, hl, hm, hmm, rfl, hi⟩
  · exact ⟨none, 0, [], rfl, Xr.nil _ _, by simp [szL, lE]⟩
  · have hm' : m = cap := by simpa using hmm
    have hc : Try.prog.cellsOf 50 = 41 := by kernel_rfl
    obtain ⟨M, hpl, hps⟩ := list_of (Q := fun i (x : En × Ad) => (∀ j v, (enp x)[j]? = some v → W.cell? (a.add (i * 41 + j)) = some v) ∧ EnI W x.1 x.2 ∧ szE x.1 + 4 ≤ Rows.uptoBulk (D i)) len (by
      intro i hlt
      obtain ⟨cs', h1, h2⟩ := hi i (by omega)
      obtain ⟨x, rfl, hw⟩ := en_up h2
      rw [hc] at h1
      obtain ⟨_, _, hat⟩ := World.cells?_some h1
      refine ⟨x, fun j v hj => ?_, hw⟩
      have hj5 : j < 41 := by
        have := (List.getElem?_eq_some_iff.1 hj).1
        rwa [enp_len] at this
      have := hat j hj5
      rw [add_add] at this
      rw [this, hj])
    have hspot : 0 < M.length → a.spot = none := fun h0 => by
      have h1 := (hps 0 (M[0]) (by simp [h0])).1 0 (.int .u8 ((M[0]).1.k 0)) rfl
      have h2 : W.cell? a = some (.int .u8 ((M[0]).1.k 0)) := by simpa [Addr.add] using h1
      exact World.cell?_spot h2
    have hgd : ∀ i, i < M.length → M[i]? = some (M.getD i zEA) := fun i h0 => by rw [List.getD_eq_getElem?_getD, List.getElem?_eq_getElem h0]; rfl
    refine ⟨some a, cap, M, by rw [hpl], ⟨fun j v hj => ?_, fun i h0 => (hps i _ (hgd i h0)).2.1⟩, ?_⟩
    · obtain ⟨hk, h2⟩ := ens_inv hj
      obtain ⟨b, off, spot⟩ := a
      obtain rfl : spot = none := hspot (by omega)
      have h3 := (hps (j / 41) _ (hgd _ hk)).1 (j % 41) v h2
      rw [Go.WideShapes.add_plain, show j / 41 * 41 + j % 41 = j by omega] at h3
      exact ⟨b, off, rfl, World.block_lt_of_cell? W _ h3, h3⟩
    · have h7 := bulk_range D len M hpl (fun i p hp => (hps i p hp).2.2)
      simp only [Rows.uptoBulk]
      omega
end
end Go.Proofs.Ytgkckblcekbafaa
