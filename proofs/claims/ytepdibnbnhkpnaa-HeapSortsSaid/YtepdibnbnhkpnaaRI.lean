/-
  Rows of items that the reference builds step by step.
-/
import Derived.Test.YtepdibnbnhkpnaaHC
namespace Go.Proofs.Ytepdibnbnhkpnaa
open Go.RowKit
set_option linter.unusedSimpArgs false
set_option linter.unusedVariables false

theorem append_it {w : World} {B n m : Nat} {v : Value} {xs : List Value} (hO : w.ownsRow B 24 3 v n xs) (pa : Option Addr) (cp : Nat) (L : List It) (hP : Cs w pa (itc L)) (hl : L.length = m) (hB : B ≤ w.heap.size) (hn : n ≤ 100000) (hm : m ≤ 100000) :
    ∃ v' w', (Builtin.append_ #[35, 35] 35 #[v, .slice pa m cp]).run Try.prog w = .ok v' w' ∧ w'.ownsRow B 24 3 v' (n + m) (xs ++ itc L) ∧ Below B w w' ∧ w.grownBy w' v.ownBlock :=
  append_cs (by kernel_rfl) infoX (by kernel_rfl) (by omega) (by omega) hO pa cp _ hP (by rw [itc_len, hl]) (itc_one _) hB hn hm
theorem own_it {w : World} {B n : Nat} {v : Value} {A : List It} (h : w.ownsRow B 24 3 v n (itc A)) : ∃ a c, v = .slice a n c ∧ Cs w a (itc A) ∧ n ≤ c := own_cs h
/-- A row is the old one, or lies in a new block. -/
def Fr (w w' : World) (a a2 : Option Addr) : Prop := a2 = a ∨ ∀ x, a2 = some x → w.heap.size ≤ x.block ∧ x.block < w'.heap.size
theorem Fr.wide {w v w' v' : World} {a a2 : Option Addr} (h : Fr w w' a a2) (h1 : v.heap.size ≤ w.heap.size) (h2 : w'.heap.size ≤ v'.heap.size) : Fr v v' a a2 := h.imp id fun h x hx => ⟨Nat.le_trans h1 (h x hx).1, Nat.lt_of_lt_of_le (h x hx).2 h2⟩
def Row (V0 V : World) (x : Value) (L : List It) : Prop := V.ownsRow V0.heap.size 24 3 x L.length (itc L)
theorem Row.below {V0 V V2 : World} {x : Value} {L : List It} (h : Row V0 V x L) (hb : Below V.heap.size V V2) : Row V0 V2 x L := own_below h hb
/-- A row of keys is appended: where the new row lies. -/
theorem Row.app {V0 V : World} {x : Value} {L : List It} (h : Row V0 V x L) (hV : V0.heap.size ≤ V.heap.size) (pa : Option Addr) (m cp : Nat) (P : List It) (hP : Cs V pa (itc P)) (hm : P.length = m) (hl : L.length ≤ 100000) (hp : m ≤ 100000) :
    ∃ v V2, (Builtin.append_ #[35, 35] 35 #[x, .slice pa m cp]).run Try.prog V = .ok v V2 ∧ Row V0 V2 v (L ++ P) ∧ Below V0.heap.size V V2 ∧ V.grownBy V2 x.ownBlock ∧ (v.ownBlock = x.ownBlock ∨ v.ownBlock = some V.heap.size) := by
  subst hm
  have hlen : (L ++ P).length = L.length + P.length := List.length_append
  cases P with
  | nil =>
    obtain ⟨v', w', hr, hO, hb, hg⟩ := append_it h pa cp [] hP rfl hV hl hp
    cases pa with
    | none =>
      have e : (Builtin.append_ #[35, 35] 35 #[x, .slice none 0 cp]).run Try.prog V = .ok x V := by
        obtain ⟨i0, hi, hz0, hz1, hz2⟩ := info_parts infoX
        have hu : Try.prog.underlying 35 = some (.slice 24) := by kernel_rfl
        rcases h.2 with ⟨rfl, h0⟩ | ⟨g, cap, cur, rfl, _, _, hnc, _⟩
        · simp [Builtin.append_, run_underlying hu, sizeOf, typeInfo, hi, Builtin.lenOf, Builtin.firstCells]
        · simp [Builtin.append_, run_underlying hu, sizeOf, typeInfo, hi, Builtin.lenOf, Builtin.firstCells, hnc, storeCells]
      exact ⟨x, V, e, by rw [List.append_nil]; exact h, Below.refl _ _, World.grownBy.refl V _, .inl rfl⟩
    | some y =>
      obtain ⟨i0, hi, hz0, hz1, hz2⟩ := info_parts infoX
      obtain ⟨v2, w2, hr2, hO2, hg2, -, hat2⟩ := run_append_own_at (P := Try.prog) V V0.heap.size 35 35 24 i0 _ 3 24 (by kernel_rfl) hi hz0 hz1 hz2 (by kernel_rfl) (by omega) x L.length (itc L) h y 0 cp [] (by simp) (fun j u h => by simp at h) (by simp) (by unfold maxLen; omega) (by omega) hV
      exact ⟨v2, w2, hr2, by unfold Row; rw [List.append_nil]; simpa using hO2, (Below.refl _ V).grown hg2 hV (fun j hj => (h.lt j hj).1), hg2, hat2⟩
  | cons p P =>
    obtain ⟨b, off, rfl, -, -⟩ := it_range hP (k := 0) (by simp)
    obtain ⟨i0, hi, hz0, hz1, hz2⟩ := info_parts infoX
    obtain ⟨v2, w2, hr2, hO2, hg2, -, hat2⟩ := run_append_own_at (P := Try.prog) V V0.heap.size 35 35 24 i0 _ 3 24 (by kernel_rfl) hi hz0 hz1 hz2 (by kernel_rfl) (by omega) x L.length (itc L) h ⟨b, off, none⟩ (p :: P).length cp (itc (p :: P)) (itc_len _) (fun j u hu => by
      obtain ⟨b2, off2, e2, -, hc⟩ := hP j u hu
      simp only [Option.some.injEq, Addr.mk.injEq, and_true] at e2
      obtain ⟨rfl, rfl⟩ := e2
      rw [Addr.add_mid]
      exact hc) (itc_one _) (by unfold maxLen; omega) (by omega) hV
    exact ⟨v2, w2, hr2, by unfold Row; rw [hlen, itc_app]; exact hO2, (Below.refl _ V).grown hg2 hV (fun j hj => (h.lt j hj).1), hg2, hat2⟩
/-- What a region keeps that builds a row of keys in up to three steps; and a slice of one key beside it. -/
structure CH (V0 : World) (k : It) (L1 L2 L3 : List It) (b0 b1 b2 b3 bk : Bool) (x0 x1 x2 x3 xk : Value) (V : World) : Prop where
  bel : Below V0.heap.size V0 V
  r0 : b0 = true → b1 = false → Row V0 V x0 []
  r1 : b1 = true → b2 = false → Row V0 V x1 L1
  r2 : b2 = true → b3 = false → Row V0 V x2 L2
  r3 : b3 = true → Row V0 V x3 L3
  c1 : b1 = true → b0 = true
  c2 : b2 = true → b1 = true
  c3 : b3 = true → b2 = true
  kx : bk = true → ∃ g, xk = .slice (some ⟨g, 0, none⟩) 1 1 ∧ Bx V g (itA k) 24 ∧ (b0 = true → b1 = false → x0.ownBlock ≠ some g) ∧ (b1 = true → b2 = false → x1.ownBlock ≠ some g) ∧ (b2 = true → b3 = false → x2.ownBlock ≠ some g)
section
variable {V0 V V2 : World} {k : It} {L1 L2 L3 : List It} {b0 b1 b2 b3 bk : Bool} {x0 x1 x2 x3 xk v : Value}
theorem Row.ne {x : Value} {L : List It} (h : Row V0 V x L) : x.ownBlock ≠ some V.heap.size := fun e => Nat.lt_irrefl _ (h.lt _ e).2
theorem CH.nil (h : CH V0 k L1 L2 L3 false false false false bk x0 x1 x2 x3 xk V) : CH V0 k L1 L2 L3 true false false false bk (.slice (some ⟨V.heap.size, 0, none⟩) 0 0) x1 x2 x3 xk (V.alloc (.cells #[] 24)) :=
  have hb : Below V.heap.size V (V.alloc (.cells #[] 24)) := (Below.refl _ V).alloc (Nat.le_refl _) _
  { bel := h.bel.trans (hb.mono h.bel.size), r0 := fun _ _ => own_base (own_nil V 24 3) h.bel.size, r1 := fun h1 => (by cases h1), r2 := fun h1 => (by cases h1), r3 := fun h1 => (by cases h1), c1 := fun h1 => (by cases h1), c2 := fun h1 => (by cases h1), c3 := fun h1 => (by cases h1)
    kx := fun hk => by
      obtain ⟨g, e, hx, -⟩ := h.kx hk
      exact ⟨g, e, hx.below hx.lt hb, fun _ _ e2 => by have := hx.lt; simp only [Value.ownBlock, Option.some.injEq] at e2; omega, fun h1 => (by cases h1), fun h1 => (by cases h1)⟩ }
theorem CH.key (h : CH V0 k L1 L2 L3 b0 b1 b2 b3 false x0 x1 x2 x3 xk V) : CH V0 k L1 L2 L3 b0 b1 b2 b3 true x0 x1 x2 x3 (.slice (some ⟨V.heap.size, 0, none⟩) 1 1) (V.alloc (.cells (itA k) 24)) :=
  have hb : Below V.heap.size V (V.alloc (.cells (itA k) 24)) := (Below.refl _ V).alloc (Nat.le_refl _) _
  { bel := h.bel.trans (hb.mono h.bel.size), r0 := fun h1 h2 => (h.r0 h1 h2).below hb, r1 := fun h1 h2 => (h.r1 h1 h2).below hb, r2 := fun h1 h2 => (h.r2 h1 h2).below hb, r3 := fun h1 => (h.r3 h1).below hb, c1 := h.c1, c2 := h.c2, c3 := h.c3
    kx := fun _ => ⟨V.heap.size, rfl, heap_alloc_last V _, fun h1 h2 => (h.r0 h1 h2).ne, fun h1 h2 => (h.r1 h1 h2).ne, fun h1 h2 => (h.r2 h1 h2).ne⟩ }
theorem kx_grown {g : Nat} {x y : Value} (hx : Bx V g (itA k) 24) (hn : x.ownBlock ≠ some g) (hg : V.grownBy V2 x.ownBlock) (hat : y.ownBlock = x.ownBlock ∨ y.ownBlock = some V.heap.size) : Bx V2 g (itA k) 24 ∧ y.ownBlock ≠ some g :=
  ⟨(hg.block g hx.lt (Ne.symm hn)).trans hx, fun e => hat.elim (fun h => hn (h.symm.trans e)) fun h => by
    have h2 := h.symm.trans e
    have := hx.lt
    simp only [Option.some.injEq] at h2
    omega⟩
theorem CH.one (h : CH V0 k L1 L2 L3 true false false false bk x0 x1 x2 x3 xk V) (hO : Row V0 V2 v L1) (hb : Below V0.heap.size V V2) (hg : V.grownBy V2 x0.ownBlock) (hat : v.ownBlock = x0.ownBlock ∨ v.ownBlock = some V.heap.size) : CH V0 k L1 L2 L3 true true false false bk x0 v x2 x3 xk V2 :=
  { bel := h.bel.trans hb, r0 := fun _ h1 => (by cases h1), r1 := fun _ _ => hO, r2 := fun h1 => (by cases h1), r3 := fun h1 => (by cases h1), c1 := fun _ => rfl, c2 := fun h1 => (by cases h1), c3 := fun h1 => (by cases h1)
    kx := fun hk => by
      obtain ⟨g, e, hx, h0, -⟩ := h.kx hk
      obtain ⟨h1, h2⟩ := kx_grown hx (h0 rfl rfl) hg hat
      exact ⟨g, e, h1, fun _ h3 => (by cases h3), fun _ _ => h2, fun h3 => (by cases h3)⟩ }
theorem CH.two (h : CH V0 k L1 L2 L3 b0 true false false bk x0 x1 x2 x3 xk V) (hO : Row V0 V2 v L2) (hb : Below V0.heap.size V V2) (hg : V.grownBy V2 x1.ownBlock) (hat : v.ownBlock = x1.ownBlock ∨ v.ownBlock = some V.heap.size) : CH V0 k L1 L2 L3 b0 true true false bk x0 x1 v x3 xk V2 :=
  { bel := h.bel.trans hb, r0 := fun _ h1 => (by cases h1), r1 := fun _ h1 => (by cases h1), r2 := fun _ _ => hO, r3 := fun h1 => (by cases h1), c1 := h.c1, c2 := fun _ => rfl, c3 := fun h1 => (by cases h1)
    kx := fun hk => by
      obtain ⟨g, e, hx, -, h0, -⟩ := h.kx hk
      obtain ⟨h1, h2⟩ := kx_grown hx (h0 rfl rfl) hg hat
      exact ⟨g, e, h1, fun _ h3 => (by cases h3), fun _ h3 => (by cases h3), fun _ _ => h2⟩ }
theorem CH.three (h : CH V0 k L1 L2 L3 b0 b1 true false bk x0 x1 x2 x3 xk V) (hO : Row V0 V2 v L3) (hb : Below V0.heap.size V V2) (hg : V.grownBy V2 x2.ownBlock) (hat : v.ownBlock = x2.ownBlock ∨ v.ownBlock = some V.heap.size) : CH V0 k L1 L2 L3 b0 b1 true true bk x0 x1 x2 v xk V2 :=
  have hb1 := h.c2 rfl
  { bel := h.bel.trans hb, r0 := fun _ h1 => (by rw [hb1] at h1; cases h1), r1 := fun _ h1 => (by cases h1), r2 := fun _ h1 => (by cases h1), r3 := fun _ => hO, c1 := h.c1, c2 := h.c2, c3 := fun _ => rfl
    kx := fun hk => by
      obtain ⟨g, e, hx, -, -, h0⟩ := h.kx hk
      obtain ⟨h1, h2⟩ := kx_grown hx (h0 rfl rfl) hg hat
      exact ⟨g, e, h1, fun _ h3 => (by rw [hb1] at h3; cases h3), fun _ h3 => (by cases h3), fun _ h3 => (by cases h3)⟩ }
theorem CH.start (V0 : World) (k : It) (L1 L2 L3 : List It) (x0 x1 x2 x3 xk : Value) : CH V0 k L1 L2 L3 false false false false false x0 x1 x2 x3 xk { V0 with drawn := V0.drawn + 1 } :=
  { bel := (Below.refl _ V0).drew, r0 := fun h1 => (by cases h1), r1 := fun h1 => (by cases h1), r2 := fun h1 => (by cases h1), r3 := fun h1 => (by cases h1), c1 := fun h1 => (by cases h1), c2 := fun h1 => (by cases h1), c3 := fun h1 => (by cases h1), kx := fun h1 => (by cases h1) }
end
def RowO (w : World) (a : Option Addr) (L : List It) (ok : Bool) (e : Ending) (w' : World) : Prop := ∃ a2 c2, e = .returned (.tuple #[.slice a2 L.length c2, .bool ok]) ∧ Cs w' a2 (itc L) ∧ L.length ≤ c2 ∧ Below w.heap.size w w' ∧ Fr w w' a a2
theorem RowO.of {w V0 V : World} {a : Option Addr} {x : Value} {L : List It} (ok : Bool) (h : Row V0 V x L) (hb : Below w.heap.size w V) (hV : w.heap.size ≤ V0.heap.size) : RowO w a L ok (.returned (.tuple #[x, .bool ok])) V := by
  have hlt := h.lt
  obtain ⟨a2, c2, rfl, hc, hl⟩ := own_it h
  exact ⟨a2, c2, rfl, hc, hl, hb, .inr fun y hy => by
    have := hlt y.block (by rw [hy]; rfl)
    omega⟩
end Go.Proofs.Ytepdibnbnhkpnaa
