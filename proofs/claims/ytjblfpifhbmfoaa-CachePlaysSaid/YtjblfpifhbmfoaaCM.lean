/-
  The walk of the statement on sequences of calls of a cache, over what the program's functions are held to.
-/
import Derived.Test.YtjblfpifhbmfoaaCN
import Derived.Deep.CutBlock
namespace Go.Proofs.Ytjblfpifhbmfoaa
open Go.RowKit
set_option linter.unusedSimpArgs false
set_option linter.unusedVariables false

/-- What the walk keeps in memory: the numbers, the cache. -/
structure MP (R : CRep) (w : World) (a : Option Addr) (n c gs gc N : Nat) (S : Nat → Prop) (z : Nat) (Ks : List (List Int)) (V : World) : Prop where
  bel : Below w.heap.size w V
  num : Bx V gs #[.slice a n c, .int .i64 N] 32
  r : R V gc S z Ks
  so : ∀ k, S k → w.heap.size ≤ k ∧ k ≠ gs
  gsw : w.heap.size ≤ gs
/-- A row of keys apart from all; a key in a block apart. -/
structure RQ (V : World) (S : Nat → Prop) (gs : Nat) (a : Option Addr) (L : List (List Int)) : Prop where
  cs : Cs V a (kcells L)
  ap : ∀ x, a = some x → x.block < V.heap.size ∧ x.block ≠ gs ∧ ¬ S x.block
structure XB (V : World) (S : Nat → Prop) (gs g : Nat) (K : List Int) : Prop where
  bx : Bx V g (w8s K) 34
  ng : g ≠ gs
  ns : ¬ S g
section
variable {R : CRep} {w V V2 : World} {a : Option Addr} {n c gs gc N z g : Nat} {S : Nat → Prop} {Ks L : List (List Int)} {K : List Int}
theorem RQ.below {b : Option Addr} (h : RQ V S gs b L) (hb : Below V.heap.size V V2) : RQ V2 S gs b L := ⟨h.cs.below hb, fun x hx => ⟨Nat.lt_of_lt_of_le (h.ap x hx).1 hb.size, (h.ap x hx).2⟩⟩
theorem RQ.but {b : Option Addr} (h : RQ V S gs b L) (hb : But gs V V2) : RQ V2 S gs b L := ⟨h.cs.but hb fun x hx => (h.ap x hx).2.1, fun x hx => ⟨Nat.lt_of_lt_of_le (h.ap x hx).1 hb.1.size, (h.ap x hx).2⟩⟩
theorem XB.below (h : XB V S gs g K) (hb : Below V.heap.size V V2) : XB V2 S gs g K := { h with bx := h.bx.below h.bx.lt hb }
theorem XB.but (h : XB V S gs g K) (hb : But gs V V2) : XB V2 S gs g K := { h with bx := h.bx.but hb h.ng }
theorem MP.below (hC : CacheC R 11 17 14 21 19 20 15) (h : MP R w a n c gs gc N S z Ks V) (hb : Below V.heap.size V V2) : MP R w a n c gs gc N S z Ks V2 :=
  { h with bel := h.bel.trans (hb.mono h.bel.size), num := h.num.below h.num.lt hb, r := hC.keep h.r hb.size fun k hk => hb.block k (hC.inn h.r k hk) }
theorem MP.num' (hC : CacheC R 11 17 14 21 19 20 15) (h : MP R w a n c gs gc N S z Ks V) (hb : But gs V V2) (hx : Bx V2 gs #[.slice a n c, .int .i64 (N + 1 : Nat)] 32) : MP R w a n c gs gc (N + 1) S z Ks V2 :=
  { h with bel := h.bel.trans (hb.1.mono h.gsw), num := hx, r := hC.keep h.r hb.1.size fun k hk => hb.2 k (hC.inn h.r k hk) (h.so k hk).2 }
theorem MP.prog (hC : CacheC R 11 17 14 21 19 20 15) {Ks2 : List (List Int)} (h : MP R w a n c gs gc N S z Ks V) (hu : UpdC R gc w.heap.size S z Ks2 V V2) : ∃ S2, MP R w a n c gs gc N S2 z Ks2 V2 ∧ (∀ b L, RQ V S gs b L → RQ V2 S2 gs b L) ∧ ∀ g K, XB V S gs g K → XB V2 S2 gs g K := by
  obtain ⟨S2, hr, hs, hb⟩ := hu
  have hg := h.num.lt
  have hbs := h.bel.size
  refine ⟨S2, { bel := h.bel.trans hb.1, num := h.num.buts hb fun e => (h.so _ e).2 rfl, r := hr, so := fun k hk => ?_, gsw := h.gsw }, fun b L q => ⟨q.cs.buts hb fun x hx => (q.ap x hx).2.2, fun x hx => ⟨Nat.lt_of_lt_of_le (q.ap x hx).1 hb.1.size, (q.ap x hx).2.1, fun h2 => ?_⟩⟩, fun g K q => { bx := q.bx.buts hb q.ns, ng := q.ng, ns := fun h2 => ?_ }⟩
  · rcases hs k hk with h1 | h1
    · exact h.so k h1
    · exact ⟨by omega, by omega⟩
  · rcases hs _ h2 with h1 | h1
    · exact (q.ap x hx).2.2 h1
    · have := (q.ap x hx).1
      omega
  · rcases hs _ h2 with h1 | h1
    · exact q.ns h1
    · have := q.bx.lt
      omega
/-- A row that is the old one or a new one. -/
theorem MP.fr (hC : CacheC R 11 17 14 21 19 20 15) (h : MP R w a n c gs gc N S z Ks V) {b b2 : Option Addr} {L2 : List (List Int)} (hq : RQ V S gs b L) (hb : Below V.heap.size V V2) (hc : Cs V2 b2 (kcells L2)) (hf : Fr V V2 b b2) : RQ V2 S gs b2 L2 := ⟨hc, fun x hx => by
  rcases hf with rfl | hf
  · exact ⟨Nat.lt_of_lt_of_le (hq.ap x hx).1 hb.size, (hq.ap x hx).2⟩
  · obtain ⟨h1, h2⟩ := hf x hx
    have h3 := h.num.lt
    exact ⟨h2, by omega, fun hs => by have := hC.inn h.r _ hs; omega⟩⟩
theorem MP.kc (h : MP R w a n c gs gc N S z Ks V) : KC R w gc z Ks V := ⟨S, h.r, fun k hk => (h.so k hk).1, h.bel⟩
end
theorem neq_same {ρ : Operand → Value} {o : Oper} {x y : Operand} (ho : o.op = .binOp .neq 3 x y 3) (k : Int) (hx : ρ x = .int .i64 k) (hy : ρ y = .int .i64 k) (w : World) : (execOp ρ o).run Try.prog w = .ok (.value (.bool false)) w := by
  unfold execOp
  simp only [ho, hx, hy]
  simp [go_sem]
theorem neq_bool {ρ : Operand → Value} {o : Oper} {x y : Operand} (ho : o.op = .binOp .neq 4 x y 4) (k : Bool) (hx : ρ x = .bool k) (hy : ρ y = .bool k) (w : World) : (execOp ρ o).run Try.prog w = .ok (.value (.bool false)) w := by
  unfold execOp
  simp only [ho, hx, hy]
  cases k <;> kernel_rfl
theorem five_int (x0 x1 x2 x3 x4 : Int) (w : World) : (Instr.buildSlice 22 5 #[(0, .int .i64 x0), (1, .int .i64 x1), (2, .int .i64 x2), (3, .int .i64 x3), (4, .int .i64 x4)]).run Try.prog w = .ok (.slice (some ⟨w.heap.size, 0, none⟩) 5 5) (w.alloc (.cells #[.int .i64 x0, .int .i64 x1, .int .i64 x2, .int .i64 x3, .int .i64 x4] 3)) := by
  obtain ⟨i0, hi, hz0, hz1, hz2⟩ := info_parts infoI
  refine run_buildSlice w 22 3 5 _ #[.int .i64 x0, .int .i64 x1, .int .i64 x2, .int .i64 x3, .int .i64 x4] i0 _ (by kernel_rfl) hi hz0 (by rw [hz1]; omega) (by rw [hz1]; omega) ?_
  rw [hz1]
  kernel_rfl
/-- What the region keeps that compares. -/
structure YC (R : CRep) (w : World) (a : Option Addr) (n c gs gc N : Nat) (S : Nat → Prop) (z : Nat) (Ks : List (List Int)) (am : Option Addr) (g : Nat) (K : List Int) (b : Bool) (x79 : Value) (V : World) : Prop where
  mp : MP R w a n c gs gc N S z Ks V
  rq : RQ V S gs am Ks
  xb : XB V S gs g K
  k79 : b = true → ∃ ak ck, x79 = .slice ak Ks.length ck ∧ Cs V ak (kcells Ks)
theorem YC.below {R : CRep} (hC : CacheC R 11 17 14 21 19 20 15) {w V V2 : World} {a am : Option Addr} {n c gs gc N z g : Nat} {S : Nat → Prop} {Ks : List (List Int)} {K : List Int} {b : Bool} {x79 : Value} (h : YC R w a n c gs gc N S z Ks am g K b x79 V) (hb : Below V.heap.size V V2) : YC R w a n c gs gc N S z Ks am g K b x79 V2 :=
  ⟨h.mp.below hC hb, h.rq.below hb, h.xb.below hb, fun e => let ⟨ak, ck, e1, e2⟩ := h.k79 e; ⟨ak, ck, e1, e2.below hb⟩⟩
end Go.Proofs.Ytjblfpifhbmfoaa
