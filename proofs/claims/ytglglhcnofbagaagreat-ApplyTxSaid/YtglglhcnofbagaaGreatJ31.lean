/-
  What the laws' walks share. Arguments opened: a slice of ints, an account, accounts, a ledger.
 Conditions: none of their own.
-/
import Derived.Test.YtglglhcnofbagaaGreatJ29
import Derived.Test.YtglglhcnofbagaaGreatJ30
import Derived.Test.YtglglhcnofbagaaGreatRows
import Derived.ProofKit
import Derived.OpenShut
import Derived.ChangeOld
import Derived.Below
import Derived.SizedLaws
import Derived.Deep.Strs
import Derived.Deep.Slices
namespace Go.Proofs.YtglglhcnofbagaaGreat.Lg
set_option maxRecDepth 100000
open Mo (usedV prioV mulB mulV)
open Go.RowKit
set_option linter.unusedSimpArgs false
set_option linter.unusedVariables false

section
variable {ρ : Operand → Value} {o : Oper} {x y : Operand}
theorem sub_i (ho : o.op = .binOp .sub 3 x y 3) (a b : Int) (h : -9223372036854775808 ≤ a - b ∧ a - b ≤ 9223372036854775807) (hx : ρ x = .int .i64 a) (hy : ρ y = .int .i64 b) (w : World) : (execOp ρ o).run Tryz.prog w = .ok (.value (.int .i64 (a - b))) w := by
 have hw : IntKind.i64.wrap (a - b) = a - b := by rw [IntKind.wrap_i64]; omega
 unfold execOp
 simp only [ho, hx, hy]
 go_simp
end
theorem Rw.but2 {w w' : World} {B g : Nat} {a : Option Addr} {c : Nat} {R : List Int} (h : Rw w B a c R) (hb : But g w w') (hn : R ≠ [] → ∀ x, a = some x → x.block ≠ g) : Rw w' B a c R := ⟨sl_but h.sl hb hn, h.le, h.b, h.n, h.o⟩
theorem blk_keep {la ad : Option Addr} {A B : List Ac} {W1 g : Nat} (hbl : (ad = la ∧ A = B) ∨ ∀ x, ad = some x → W1 ≤ x.block) (ho : acc B ≠ [] → ∀ x, la = some x → x.block ≠ g) (h1 : g < W1) : acc A ≠ [] → ∀ x, ad = some x → x.block ≠ g := fun hne x hx => by
 rcases hbl with ⟨rfl, e2⟩ | h9
 ·rw [e2] at hne
  exact ho hne x hx
 ·have := h9 x hx
  omega
/-- The program's Tx on a good ledger. -/
theorem tx_good {A : List Ac} {c price : Int} {L : List Int} {la ra : Option Addr} {lk rc : Nat} {w : World} (hq : LdQ A c) (hp : W64 price) (hL : Cs w la (acc A)) (hlk : A.length ≤ lk) (hS : Sl w ra rc L) (hrc : L.length ≤ rc) (h8 : ∀ y, y ∈ L → W8 y) :
  Calls Tryz.prog 11 #[.agg (lgA la A.length lk c), .int .u64 price, .slice ra L.length rc] w (TxO w la A (txX A c price L)) :=
 q_tx A c price L la ra lk rc w hL hlk (by have := hq.n; omega) hq.cw hq.w hq.z hp hS hrc h8
end Go.Proofs.YtglglhcnofbagaaGreat.Lg
namespace Go.Proofs.YtglglhcnofbagaaGreat.Lg
set_option maxRecDepth 100000
open Go.ChangeShapes Go.WideShapes Go.ChangeAt Go.RowKit Go.Deep Go.Joins

theorem i64_of_wf {x : Int} (h : (Lit.int .i64 x).wf = true) : I64 x := by
 simp [Lit.wf, IntKind.min, IntKind.max, IntKind.signed, IntKind.bits] at h
 exact ⟨by omega, by omega⟩
theorem ints_arg {H : Type} {enc : TypeId × Value → H} {W : World} {fuel : Nat} {cs : List Value} {y : DataW H × List MemPlace} (h : DataW.trod enc Tryz.prog W 0 (fun _ => true) true fuel 27 cs = some y) :
  ∃ a cap L, cs = [.slice a (List.length L) cap] ∧ L.length ≤ 9223372036854775807 ∧ Cs W a (icells L) := by
 rcases open_ints Tryz.underlying27 Tryz.underlying3 (by kernel_rfl) h with ⟨rfl, rfl⟩ | ⟨x, l, c, zs, rfl, _, hl, hm, hz, rfl, hcell, hwz⟩
 ·exact ⟨none, 0, [], rfl, by simp, Cs.nil _ _⟩
 ·have hz' : zs.length = c := by simpa using hz
  have hlen : (zs.take l).length = l := by rw [List.length_take]; omega
  refine ⟨some x, c, zs.take l, by rw [hlen], by rw [hlen]; unfold maxLen at hm; omega, fun j v hj => ?_⟩
  have hjl : j < (zs.take l).length := by
   have := (List.getElem?_eq_some_iff.1 hj).1
   simpa [icells] using this
  have hjz : j < zs.length := by omega
  obtain ⟨b, off, rfl, hc⟩ := ints_at hcell (by omega)
  rw [icells_at _ _ hjl] at hj
  simp only [Option.some.injEq] at hj
  have hcj := hc j hjz
  refine ⟨b, off, rfl, World.block_lt_of_cell? W _ hcj, ?_⟩
  rw [hcj, ← hj]
  simp [List.getD, show j < l by omega]
/-- A list of what is there at each place. -/
theorem list_of {α : Type} {Q : Nat → α → Prop} (n : Nat) (h : ∀ i, i < n → ∃ p, Q i p) : ∃ ps : List α, ps.length = n ∧ ∀ i p, ps[i]? = some p → Q i p := by
 induction n with
 | zero => exact ⟨[], rfl, fun i p hi => by simp at hi⟩
 | succ n ih =>
  obtain ⟨ps, hl, hq⟩ := ih (fun i hi => h i (by omega))
  obtain ⟨p, hp⟩ := h n (by omega)
  refine ⟨ps ++ [p], by simp [hl], fun i q hi => ?_⟩
  by_cases hlt : i < n
  ·rw [List.getElem?_append_left (by omega)] at hi
   exact hq i q hi
  ·have hb := (List.getElem?_eq_some_iff.1 hi).1
   rw [List.length_append, List.length_singleton] at hb
   obtain rfl : i = n := by omega
   rw [List.getElem?_append_right (by omega), hl] at hi
   simp at hi
   exact hi ▸ hp
theorem size_list (x : ByteArray) : x.data.toList.length = x.size := Array.length_toList
theorem u64_of_wf {x : Int} (h : (Lit.int .u64 x).wf = true) : W64 x := by
 simp [Lit.wf, IntKind.min, IntKind.max, IntKind.signed, IntKind.bits] at h
 exact ⟨by omega, by omega⟩
theorem u8_of_wf {x : Int} (h : (Lit.int .u8 x).wf = true) : 0 ≤ x ∧ x ≤ 255 := by
 simp [Lit.wf, IntKind.min, IntKind.max, IntKind.signed, IntKind.bits] at h
 exact ⟨by omega, by omega⟩
theorem u16_of_wf {x : Int} (h : (Lit.int .u16 x).wf = true) : 0 ≤ x ∧ x ≤ 65535 := by
 simp [Lit.wf, IntKind.min, IntKind.max, IntKind.signed, IntKind.bits] at h
 exact ⟨by omega, by omega⟩
theorem weights_all {H : Type} {P : Program} {e : TypeId} {d : DataW H} : ∀ {ds : List (DataW H)}, d ∈ ds → ∀ n, n ∈ d.weights P e → n ∈ DataW.weightsAll P e ds
 | x :: r, h, n, hn => by
  simp only [DataW.weightsAll, List.mem_append]
  rcases List.mem_cons.1 h with rfl | h
  ·exact .inl hn
  ·exact .inr (weights_all h n hn)
set_option maxRecDepth 100000 in
theorem ac_arg {H : Type} {enc : TypeId × Value → H} {W : World} {fuel : Nat} {cs : List Value} {y : DataW H × List MemPlace} (h : DataW.trod enc Tryz.prog W 0 (fun _ => true) true fuel 49 cs = some y) :
  ∃ x : Ac, cs = acl x ∧ (W64 x.2.1 ∧ W64 x.2.2) ∧ (x.1.size : Nat) ∈ y.1.weights Tryz.prog 49 := by
 obtain ⟨y0, y1, y2, n, rfl, hl, t0, t1, t2⟩ := trod_struct3 Tryz.underlying49 h
 have hc : Tryz.prog.cellsOf 49 = 3 := by kernel_rfl
 rw [hc] at hl
 match cs, hl with
 | [c0, c1, c2], _ =>
  obtain ⟨s0, e0, d0, -⟩ := DataW.trod_string Tryz.underlying9 t0
  obtain ⟨n1, e1, -, w1⟩ := DataW.trod_int (k := .u64) Tryz.underlying23 t1
  obtain ⟨n2, e2, -, w2⟩ := DataW.trod_int (k := .u64) Tryz.underlying23 t2
  have k0 : Tryz.prog.cellsOf 9 = 1 := by kernel_rfl
  have k1 : Tryz.prog.cellsOf 23 = 1 := by kernel_rfl
  simp only [k0, k1, List.drop_zero, List.drop_succ_cons, List.take_succ_cons, List.take_zero, List.cons.injEq, and_true] at e0 e1 e2
  subst e0 e1 e2
  refine ⟨(s0, n1, n2), rfl, ⟨u64_of_wf w1, u64_of_wf w2⟩, ?_⟩
  rw [d0]
  simp [DataW.weights, Tryz.underlying49, DataW.weightsEach]
set_option maxRecDepth 100000 in
theorem acs_arg {H : Type} {enc : TypeId × Value → H} {W : World} {fuel : Nat} {cs : List Value} {y : DataW H × List MemPlace} (h : DataW.trod enc Tryz.prog W 0 (fun _ => true) true fuel 22 cs = some y) (hz : ∀ n, n ∈ y.1.weights Tryz.prog 22 → n ≤ reachBytes) :
  ∃ a cap M, cs = [.slice a (List.length M) cap] ∧ M.length ≤ cap ∧ M.length * 32 ≤ 140737488351232 ∧ Cs W a (acc M) ∧ ∀ x, x ∈ M → (W64 x.2.1 ∧ W64 x.2.2) ∧ x.1.size ≤ 140737488355328 := by
 rcases open_slice Tryz.underlying22 h with ⟨rfl, rfl⟩ | ⟨a, len, cap, m, n, D, Pl, rfl, _, hl, hm, hmm, rfl, hi⟩
 ·exact ⟨none, 0, [], rfl, Nat.le_refl _, by simp, Cs.nil _ _, fun x hx => by cases hx⟩
 ·have hm' : m = cap := by simpa using hmm
  have hc : Tryz.prog.cellsOf 49 = 3 := by kernel_rfl
  have h32 : Tryz.prog.bytesOf 49 = 32 := by kernel_rfl
  have hr : reachBytes = 140737488351232 := rfl
  have hlen : len * 32 ≤ 140737488351232 := by
   have h1 := hz ((len + (m - len)) * 32) (by simp [DataW.weights, Tryz.underlying22, h32])
   rw [hr] at h1
   have : len * 32 ≤ (len + (m - len)) * 32 := Nat.mul_le_mul_right _ (Nat.le_add_right _ _)
   omega
  obtain ⟨M, hpl, hps⟩ := list_of (Q := fun i (x : Ac) => (∀ j v, (acl x)[j]? = some v → W.cell? (a.add (i * 3 + j)) = some v) ∧ (W64 x.2.1 ∧ W64 x.2.2) ∧ x.1.size ≤ 140737488355328) len (by
   intro i hlt
   obtain ⟨cs', h1, h2⟩ := hi i (by omega)
   obtain ⟨x, rfl, hw, hwt⟩ := ac_arg h2
   rw [hc] at h1
   obtain ⟨_, _, hat⟩ := World.cells?_some h1
   refine ⟨x, fun j v hj => ?_, hw, ?_⟩
   ·have hj3 : j < 3 := by
     have := (List.getElem?_eq_some_iff.1 hj).1
     simpa [acl] using this
    have := hat j hj3
    rw [add_add] at this
    rw [this, hj]
   ·have hmem : D i ∈ (List.range len).map D := List.mem_map.2 ⟨i, List.mem_range.2 hlt, rfl⟩
    have h3 := hz _ (by
     simp only [DataW.weights, Tryz.underlying22]
     exact List.mem_cons_of_mem _ (List.mem_append_left _ (weights_all hmem _ hwt)))
    omega)
  have hspot : 0 < M.length → a.spot = none := fun h0 => by
   have h1 := (hps 0 (M[0]) (by simp [h0])).1 0 (.string (M[0]).1) rfl
   have h2 : W.cell? a = some (.string (M[0]).1) := by simpa [Addr.add] using h1
   exact World.cell?_spot h2
  refine ⟨some a, cap, M, by rw [hpl], by rw [hpl]; omega, by rw [hpl]; exact hlen, fun j v hj => ?_, fun x hx => by
   obtain ⟨i, hlt, e⟩ := List.getElem_of_mem hx
   exact (hps i x (by rw [List.getElem?_eq_getElem hlt, e])).2⟩
  have hjl : j < M.length * 3 := by
   have := (List.getElem?_eq_some_iff.1 hj).1
   rwa [acc_len] at this
  obtain ⟨b, off, spot⟩ := a
  obtain rfl : spot = none := hspot (by omega)
  have hk : j / 3 < M.length := by omega
  have hcell : W.cell? ⟨b, off + j, none⟩ = some v := by
   have h1 := (hps (j / 3) (aca M (j / 3)) (by rw [aca_get hk]; exact List.getElem?_eq_getElem hk)).1 (j % 3)
   obtain ⟨c0, c1, c2⟩ := acc_at M (j / 3) hk
   have h2 : (acl (aca M (j / 3)))[j % 3]? = some v := by
    rcases (show j % 3 = 0 ∨ j % 3 = 1 ∨ j % 3 = 2 by omega) with e | e | e
    ·rw [show j = j / 3 * 3 by omega, c0] at hj; rw [e]; exact hj
    ·rw [show j = j / 3 * 3 + 1 by omega, c1] at hj; rw [e]; exact hj
    ·rw [show j = j / 3 * 3 + 2 by omega, c2] at hj; rw [e]; exact hj
   have h3 := h1 v h2
   rw [Go.WideShapes.add_plain, show j / 3 * 3 + j % 3 = j by omega] at h3
   exact h3
  exact ⟨b, off, rfl, World.block_lt_of_cell? W _ hcell, hcell⟩
def ledl (a : Option Addr) (n c : Nat) (cc : Int) : List Value := [.slice a n c, .int .u64 cc]
set_option maxRecDepth 100000 in
theorem led_arg {H : Type} {enc : TypeId × Value → H} {W : World} {fuel : Nat} {cs : List Value} {y : DataW H × List MemPlace} (h : DataW.trod enc Tryz.prog W 0 (fun _ => true) true fuel 25 cs = some y) (hz : ∀ n, n ∈ y.1.weights Tryz.prog 25 → n ≤ reachBytes) :
  ∃ a cap M cc, cs = ledl a (List.length M) cap cc ∧ M.length ≤ cap ∧ M.length * 32 ≤ 140737488351232 ∧ Cs W a (acc M) ∧ (∀ x, x ∈ M → (W64 x.2.1 ∧ W64 x.2.2) ∧ x.1.size ≤ 140737488355328) ∧ W64 cc := by
 obtain ⟨y0, y1, n, hy, hl, t0, t1⟩ := trod_struct2 Tryz.underlying25 h
 have hc : Tryz.prog.cellsOf 25 = 2 := by kernel_rfl
 rw [hc] at hl
 have hwt : ∀ n, n ∈ y0.1.weights Tryz.prog 22 → n ≤ reachBytes := fun n hn => hz n (by
  rw [hy]
  simp only [DataW.weights, Tryz.underlying25, DataW.weightsEach, List.map_cons, List.map_nil, List.mem_append]
  exact .inl hn)
 match cs, hl with
 | [c0, c1], _ =>
  obtain ⟨a, c, M, e0, hcap, hM, hcs, hxs⟩ := acs_arg t0 hwt
  obtain ⟨n1, e1, -, w1⟩ := DataW.trod_int (k := .u64) Tryz.underlying23 t1
  have k0 : Tryz.prog.cellsOf 22 = 1 := by kernel_rfl
  have k1 : Tryz.prog.cellsOf 23 = 1 := by kernel_rfl
  simp only [k0, k1, List.drop_zero, List.drop_succ_cons, List.take_succ_cons, List.take_zero, List.cons.injEq, and_true] at e0 e1
  subst e0 e1
  exact ⟨a, c, M, n1, rfl, hcap, hM, hcs, hxs, u64_of_wf w1⟩
theorem bytes_arg {H : Type} {enc : TypeId × Value → H} {W : World} {fuel : Nat} {cs : List Value} {y : DataW H × List MemPlace} (h : DataW.trod enc Tryz.prog W 0 (fun _ => true) true fuel 26 cs = some y) :
  ∃ a cap L, cs = [.slice a (List.length L) cap] ∧ L.length ≤ cap ∧ Sl W a cap L ∧ (∀ x, x ∈ L → W8 x) := by
 rcases open_ints Tryz.underlying26 Tryz.underlying5 (by kernel_rfl) h with ⟨rfl, rfl⟩ | ⟨x, l, c, zs, rfl, _, hl, hm, hz, rfl, hcell, hwz⟩
 ·exact ⟨none, 0, [], rfl, by simp, .inl ⟨rfl, rfl, rfl⟩, by simp⟩
 ·have hz' : zs.length = c := by simpa using hz
  have hlen : (zs.take l).length = l := by rw [List.length_take]; omega
  refine ⟨some x, c, zs.take l, by rw [hlen], by omega, .inr ⟨x, rfl, fun k hk => ?_⟩, fun y hy => u8_of_wf (hwz y (List.mem_of_mem_take hy))⟩
  obtain ⟨b, off, rfl, hc⟩ := ints_at hcell (by omega)
  refine ⟨b, off, rfl, ?_⟩
  rw [hc k (by omega), List.getD_eq_getElem?_getD, List.getD_eq_getElem?_getD, List.getElem?_take, if_pos (by omega)]
end Go.Proofs.YtglglhcnofbagaaGreat.Lg
