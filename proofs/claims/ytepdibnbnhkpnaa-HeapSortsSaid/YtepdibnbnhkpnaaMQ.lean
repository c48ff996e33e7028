/-
  What a walk keeps in memory: the numbers, a heap, rows of items and items in blocks apart.
-/
import Derived.Test.YtepdibnbnhkpnaaMH
import Derived.Test.YtepdibnbnhkpnaaMO
namespace Go.Proofs.Ytepdibnbnhkpnaa
open Go.RowKit
set_option linter.unusedSimpArgs false
set_option linter.unusedVariables false

/-- The numbers, the heap. -/
structure MP (R : HRep) (w : World) (a : Option Addr) (n c gs gh N : Nat) (S : Nat → Prop) (M : List It) (V : World) : Prop where
  bel : Below w.heap.size w V
  num : Bx V gs #[.slice a n c, .int .i64 N] 42
  r : R V gh S M
  so : ∀ k, S k → w.heap.size ≤ k ∧ k ≠ gs
  gsw : w.heap.size ≤ gs
/-- A row of items apart from all; an item in a block apart. -/
structure RQ (V : World) (S : Nat → Prop) (gs : Nat) (a : Option Addr) (L : List It) : Prop where
  cs : Cs V a (itc L)
  ap : ∀ x, a = some x → x.block < V.heap.size ∧ x.block ≠ gs ∧ ¬ S x.block
structure XB (V : World) (S : Nat → Prop) (gs g : Nat) (x : It) : Prop where
  bx : Bx V g (itA x) 24
  ng : g ≠ gs
  ns : ¬ S g
section
variable {R : HRep} {w V V2 : World} {a : Option Addr} {n c gs gh N g : Nat} {S : Nat → Prop} {M L : List It} {x : It}
theorem RQ.below {b : Option Addr} (h : RQ V S gs b L) (hb : Below V.heap.size V V2) : RQ V2 S gs b L := ⟨h.cs.below hb, fun x hx => ⟨Nat.lt_of_lt_of_le (h.ap x hx).1 hb.size, (h.ap x hx).2⟩⟩
theorem RQ.but {b : Option Addr} (h : RQ V S gs b L) (hb : But gs V V2) : RQ V2 S gs b L := ⟨h.cs.but hb fun x hx => (h.ap x hx).2.1, fun x hx => ⟨Nat.lt_of_lt_of_le (h.ap x hx).1 hb.1.size, (h.ap x hx).2⟩⟩
theorem RQ.nil : RQ V S gs none [] := ⟨Cs.nil _ _, fun x hx => (by cases hx)⟩
theorem RQ.tail {b : Option Addr} (h : RQ V S gs b L) {cm : Nat} (hc : L.length ≤ cm) : RQ V S gs (fromS 3 b cm 1) L.tail := by
  refine ⟨?_, fun y hy => ?_⟩
  · have := h.cs.from 3 cm 1 (by rw [itc_len]; omega)
    rw [itc_drop] at this
    rw [← List.drop_one]
    exact this
  · unfold fromS at hy
    split at hy
    · exact h.ap y hy
    · cases b with
      | none => cases hy
      | some z =>
        simp only [Option.map_some, Option.some.injEq] at hy
        have := h.ap z rfl
        rw [← hy]
        exact this
theorem XB.below (h : XB V S gs g x) (hb : Below V.heap.size V V2) : XB V2 S gs g x := { h with bx := h.bx.below h.bx.lt hb }
theorem XB.but (h : XB V S gs g x) (hb : But gs V V2) : XB V2 S gs g x := { h with bx := h.bx.but hb h.ng }
theorem MP.below (hC : HeapC R 13 15 17 20 19 23 21 11) (h : MP R w a n c gs gh N S M V) (hb : Below V.heap.size V V2) : MP R w a n c gs gh N S M V2 :=
  { h with bel := h.bel.trans (hb.mono h.bel.size), num := h.num.below h.num.lt hb, r := hC.keep h.r fun k hk => hb.block k (hC.inn h.r k hk) }
theorem MP.num' (hC : HeapC R 13 15 17 20 19 23 21 11) (h : MP R w a n c gs gh N S M V) (hb : But gs V V2) {N2 : Nat} (hx : Bx V2 gs #[.slice a n c, .int .i64 N2] 42) : MP R w a n c gs gh N2 S M V2 :=
  { h with bel := h.bel.trans (hb.1.mono h.gsw), num := hx, r := hC.keep h.r fun k hk => hb.2 k (hC.inn h.r k hk) (h.so k hk).2 }
theorem MP.prog (hC : HeapC R 13 15 17 20 19 23 21 11) {M2 : List It} (h : MP R w a n c gs gh N S M V) (hu : UpdH R gh w.heap.size S M2 V V2) : ∃ S2, MP R w a n c gs gh N S2 M2 V2 ∧ (∀ b L, RQ V S gs b L → RQ V2 S2 gs b L) ∧ ∀ g x, XB V S gs g x → XB V2 S2 gs g x := by
  obtain ⟨S2, hr, hs, hb⟩ := hu
  have hg := h.num.lt
  have hbs := h.bel.size
  refine ⟨S2, { bel := h.bel.trans hb.1, num := h.num.buts hb fun e => (h.so _ e).2 rfl, r := hr, so := fun k hk => ?_, gsw := h.gsw }, fun b L q => ⟨q.cs.buts hb fun x hx => (q.ap x hx).2.2, fun x hx => ⟨Nat.lt_of_lt_of_le (q.ap x hx).1 hb.1.size, (q.ap x hx).2.1, fun h2 => ?_⟩⟩, fun g K q => { bx := q.bx.buts hb q.ns, ng := q.ng, ns := fun h2 => ?_ }⟩
  · rcases hs k hk with h1 | h1
    · exact h.so k h1
    · exact ⟨by omega, by omega⟩
  · rcases hs _ h2 with h1 | h1
    · exact (q.ap x hx).2.2 h1
    · have := (q.ap x hx).1
      omega
  · rcases hs _ h2 with h1 | h1
    · exact q.ns h1
    · have := q.bx.lt
      omega
/-- A row that is the old one or a new one. -/
theorem MP.fr (hC : HeapC R 13 15 17 20 19 23 21 11) (h : MP R w a n c gs gh N S M V) {b b2 : Option Addr} {L2 : List It} (hq : RQ V S gs b L) (hb : Below V.heap.size V V2) (hc : Cs V2 b2 (itc L2)) (hf : Fr V V2 b b2) : RQ V2 S gs b2 L2 := ⟨hc, fun x hx => by
  rcases hf with rfl | hf
  · exact ⟨Nat.lt_of_lt_of_le (hq.ap x hx).1 hb.size, (hq.ap x hx).2⟩
  · obtain ⟨h1, h2⟩ := hf x hx
    have h3 := h.num.lt
    exact ⟨h2, by omega, fun hs => by have := hC.inn h.r _ hs; omega⟩⟩
/-- A new block. -/
theorem MP.box (hC : HeapC R 13 15 17 20 19 23 21 11) (h : MP R w a n c gs gh N S M V) (hb : Bx V2 V.heap.size (itA x) 24) : XB V2 S gs V.heap.size x := ⟨hb, by have := h.num.lt; omega, fun hs => by have := hC.inn h.r _ hs; omega⟩
end
/-- What the region keeps that compares. -/
structure YC (R : HRep) (w : World) (a : Option Addr) (n c gs gh N : Nat) (S : Nat → Prop) (M : List It) (am : Option Addr) (g : Nat) (y : It) (b : Bool) (xs : Value) (V : World) : Prop where
  mp : MP R w a n c gs gh N S M V
  rq : RQ V S gs am M
  xb : Bx V g (itA y) 24
  kx : b = true → ∃ ak ck, xs = .slice ak M.length ck ∧ Cs V ak (itc M)
theorem YC.below {R : HRep} (hC : HeapC R 13 15 17 20 19 23 21 11) {w V V2 : World} {a am : Option Addr} {n c gs gh N g : Nat} {S : Nat → Prop} {M : List It} {y : It} {b : Bool} {xs : Value} (h : YC R w a n c gs gh N S M am g y b xs V) (hb : Below V.heap.size V V2) : YC R w a n c gs gh N S M am g y b xs V2 :=
  ⟨h.mp.below hC hb, h.rq.below hb, h.xb.below h.xb.lt hb, fun e => let ⟨ak, ck, e1, e2⟩ := h.kx e; ⟨ak, ck, e1, e2.below hb⟩⟩
theorem head_load {w : World} {am : Option Addr} {M : List It} (h : Cs w am (itc M)) (h0 : 0 < M.length) : ∃ b off, am = some ⟨b, off, none⟩ ∧ (Instr.loadAt 24 (.pointer (some ⟨b, off + 0 * 3, none⟩))).run Try.prog w = .ok (.agg (itA (ita M 0))) w := by
  obtain ⟨b, off, rfl, -, hr⟩ := it_range h h0
  exact ⟨b, off, rfl, load_it hr⟩
end Go.Proofs.Ytepdibnbnhkpnaa
