/-
 The reference's RemoveEntry: contract.
-/
import Derived.Test.YtmpajgaanghpoaaRE
namespace Go.Proofs.Ytmpajgaanghpoaa
open Go.RowKit
set_option maxRecDepth 100000
set_option linter.unusedSimpArgs false
set_option linter.unusedVariables false

def RowI (V0 V : World) (x : Value) (L : List Int) : Prop := V.ownsRow V0.heap.size 3 1 x L.length (icells L)
theorem RowI.below {V0 V V2 : World} {x : Value} {L : List Int} (h : RowI V0 V x L) (hb : Below V.heap.size V V2) : RowI V0 V2 x L := own_below h hb
/-- A row of keys is appended: where the new row lies. -/
theorem RowI.app {V0 V : World} {x : Value} {L : List Int} (h : RowI V0 V x L) (hV : V0.heap.size ≤ V.heap.size) (pa : Option Addr) (m cp : Nat) (P : List Int) (hP : Cs V pa (icells P)) (hm : P.length = m) (hl : L.length ≤ 100000) (hp : m ≤ 100000) :
  ∃ v V2, (Builtin.append_ #[22, 22] 22 #[x, .slice pa m cp]).run Try.prog V = .ok v V2 ∧ RowI V0 V2 v (L ++ P) ∧ Below V0.heap.size V V2 ∧ V.grownBy V2 x.ownBlock ∧ (v.ownBlock = x.ownBlock ∨ v.ownBlock = some V.heap.size) := by
 subst hm
 have hlen : (L ++ P).length = L.length + P.length := List.length_append
 cases P with
 | nil =>
  obtain ⟨v', w', hr, hO, hb, hg⟩ := append_int h pa cp [] hP rfl hV hl hp
  cases pa with
  | none =>
   have e : (Builtin.append_ #[22, 22] 22 #[x, .slice none 0 cp]).run Try.prog V = .ok x V := by
    obtain ⟨i0, hi, hz0, hz1, hz2⟩ := info_parts infoI
    have hu : Try.prog.underlying 22 = some (.slice 3) := by kernel_rfl
    rcases h.2 with ⟨rfl, h0⟩ | ⟨g, cap, cur, rfl, _, _, hnc, _⟩
    ·simp [Builtin.append_, run_underlying hu, sizeOf, typeInfo, hi, Builtin.lenOf, Builtin.firstCells]
    ·simp [Builtin.append_, run_underlying hu, sizeOf, typeInfo, hi, Builtin.lenOf, Builtin.firstCells, hnc, storeCells]
   exact ⟨x, V, e, by rw [List.append_nil]; exact h, Below.refl _ _, World.grownBy.refl V _, .inl rfl⟩
  | some y =>
   obtain ⟨i0, hi, hz0, hz1, hz2⟩ := info_parts infoI
   obtain ⟨v2, w2, hr2, hO2, hg2, -, hat2⟩ := run_append_own_at (P := Try.prog) V V0.heap.size 22 22 3 i0 _ 1 8 (by kernel_rfl) hi hz0 hz1 hz2 (by kernel_rfl) (by omega) x L.length (icells L) h y 0 cp [] (by simp) (fun j u h => by simp at h) (by simp) (by unfold maxLen; omega) (by omega) hV
   exact ⟨v2, w2, hr2, by unfold RowI; rw [List.append_nil]; simpa using hO2, (Below.refl _ V).grown hg2 hV (fun j hj => (h.lt j hj).1), hg2, hat2⟩
 | cons p P =>
  obtain ⟨b, off, rfl, -, -⟩ := int_at hP (k := 0) (by simp)
  obtain ⟨i0, hi, hz0, hz1, hz2⟩ := info_parts infoI
  obtain ⟨v2, w2, hr2, hO2, hg2, -, hat2⟩ := run_append_own_at (P := Try.prog) V V0.heap.size 22 22 3 i0 _ 1 8 (by kernel_rfl) hi hz0 hz1 hz2 (by kernel_rfl) (by omega) x L.length (icells L) h ⟨b, off, none⟩ (p :: P).length cp (icells (p :: P)) (by simp [icells]) (fun j u hu => by
   obtain ⟨b2, off2, e2, -, hc⟩ := hP j u hu
   simp only [Option.some.injEq, Addr.mk.injEq, and_true] at e2
   obtain ⟨rfl, rfl⟩ := e2
   rw [Addr.add_mid]
   exact hc) (icells_one _) (by unfold maxLen; omega) (by omega) hV
  exact ⟨v2, w2, hr2, by unfold RowI; rw [hlen, icells_app]; exact hO2, (Below.refl _ V).grown hg2 hV (fun j hj => (h.lt j hj).1), hg2, hat2⟩
theorem RowI.ne {V0 V : World} {x : Value} {L : List Int} (h : RowI V0 V x L) : x.ownBlock ≠ some V.heap.size := fun e => Nat.lt_irrefl _ (h.lt _ e).2
theorem kx_grown {V V2 : World} {g t : Nat} {cs : Array Value} {x y : Value} (hx : Bx V g cs t) (hn : x.ownBlock ≠ some g) (hg : V.grownBy V2 x.ownBlock) (hat : y.ownBlock = x.ownBlock ∨ y.ownBlock = some V.heap.size) : Bx V2 g cs t ∧ y.ownBlock ≠ some g :=
 ⟨(hg.block g hx.lt (Ne.symm hn)).trans hx, fun e => hat.elim (fun h => hn (h.symm.trans e)) fun h => by
  have h2 := h.symm.trans e
  have := hx.lt
  simp only [Option.some.injEq] at h2
  omega⟩
/-- A row of numbers that is copied and grows by one, and a box written at the end. -/
structure CI (W : World) (g4 tb : Nat) (z4 : Array Value) (F : List Int) (i : Int) (mk : Value → Array Value) (b0 b1 bk b2 bb bs : Bool) (x0 x1 xk x2 xb : Value) (V : World) : Prop where
 g4w : g4 < W.heap.size
 but : But g4 W V
 x4 : bs = false → Bx V g4 z4 tb
 r0 : b0 = true → b1 = false → RowI W V x0 []
 r1 : b1 = true → b2 = false → RowI W V x1 F
 r2 : b2 = true → RowI W V x2 (F ++ [i])
 c1 : b1 = true → b0 = true
 c2 : b2 = true → b1 = true
 ck : b2 = true → bk = true
 cb : bb = true → b2 = true
 cs : bs = true → bb = true
 kx : bk = true → ∃ g, xk = .slice (some ⟨g, 0, none⟩) 1 1 ∧ Bx V g #[.int .i64 i] 3 ∧ W.heap.size ≤ g ∧ (b0 = true → b1 = false → x0.ownBlock ≠ some g) ∧ (b1 = true → b2 = false → x1.ownBlock ≠ some g)
 bx : bb = true → xb = .agg (mk x2)
 fin : bs = true → Bx V g4 (mk x2) tb
section
variable {W V V2 : World} {g4 tb : Nat} {z4 : Array Value} {F : List Int} {i : Int} {mk : Value → Array Value} {b0 b1 bk b2 bb bs : Bool} {x0 x1 xk x2 xb v : Value}
theorem CI.start (hg : g4 < W.heap.size) (h4 : Bx W g4 z4 tb) : CI W g4 tb z4 F i mk false false false false false false x0 x1 xk x2 xb { W with drawn := W.drawn + 1 } :=
 ⟨hg, ⟨(Below.refl _ W).drew, fun _ _ _ => rfl⟩, fun _ => h4.below hg (Below.refl _ W).drew, (fun e => nomatch e), (fun e => nomatch e), (fun e => nomatch e), (fun e => nomatch e), (fun e => nomatch e), (fun e => nomatch e), (fun e => nomatch e), (fun e => nomatch e), (fun e => nomatch e), (fun e => nomatch e), (fun e => nomatch e)⟩
theorem CI.n0 (h : CI W g4 tb z4 F i mk false b1 bk b2 bb bs x0 x1 xk x2 xb V) : b1 = false ∧ b2 = false ∧ bb = false ∧ bs = false := by
 obtain rfl := ffw h.c1 rfl
 obtain rfl := ffw h.c2 rfl
 obtain rfl := ffw h.cb rfl
 obtain rfl := ffw h.cs rfl
 exact ⟨rfl, rfl, rfl, rfl⟩
theorem CI.n1 (h : CI W g4 tb z4 F i mk b0 false bk b2 bb bs x0 x1 xk x2 xb V) : b2 = false ∧ bb = false ∧ bs = false := by
 obtain rfl := ffw h.c2 rfl
 obtain rfl := ffw h.cb rfl
 obtain rfl := ffw h.cs rfl
 exact ⟨rfl, rfl, rfl⟩
theorem CI.n2 (h : CI W g4 tb z4 F i mk b0 b1 bk false bb bs x0 x1 xk x2 xb V) : bb = false ∧ bs = false := by
 obtain rfl := ffw h.cb rfl
 obtain rfl := ffw h.cs rfl
 exact ⟨rfl, rfl⟩
theorem CI.nb (h : CI W g4 tb z4 F i mk b0 b1 bk b2 false bs x0 x1 xk x2 xb V) : bs = false := ffw h.cs rfl
theorem CI.nil (h : CI W g4 tb z4 F i mk false false bk false false false x0 x1 xk x2 xb V) : CI W g4 tb z4 F i mk true false bk false false false (.slice (some ⟨V.heap.size, 0, none⟩) 0 0) x1 xk x2 xb (V.alloc (.cells #[] 3)) :=
 have hb : Below V.heap.size V (V.alloc (.cells #[] 3)) := (Below.refl _ V).alloc (Nat.le_refl _) _
 have h4 := h.x4 rfl
 {g4w := h.g4w, but := h.but.trans (But.of_below hb (Nat.le_of_lt h4.lt)), x4 := fun _ => h4.below h4.lt hb, r0 := fun _ _ => own_base (own_nil V 3 1) h.but.1.size, r1 := (fun e => nomatch e), r2 := (fun e => nomatch e), c1 := (fun e => nomatch e), c2 := (fun e => nomatch e), ck := (fun e => nomatch e), cb := (fun e => nomatch e), cs := (fun e => nomatch e), bx := (fun e => nomatch e), fin := (fun e => nomatch e)
  kx := fun hk => by
   obtain ⟨g, e, hx, hw, -⟩ := h.kx hk
   exact ⟨g, e, hx.below hx.lt hb, hw, fun _ _ e2 => by have := hx.lt; simp only [Value.ownBlock, Option.some.injEq] at e2; omega, (fun e => nomatch e)⟩ }
theorem CI.key (h : CI W g4 tb z4 F i mk b0 b1 false false false false x0 x1 xk x2 xb V) : CI W g4 tb z4 F i mk b0 b1 true false false false x0 x1 (.slice (some ⟨V.heap.size, 0, none⟩) 1 1) x2 xb (V.alloc (.cells #[.int .i64 i] 3)) :=
 have hb : Below V.heap.size V (V.alloc (.cells #[.int .i64 i] 3)) := (Below.refl _ V).alloc (Nat.le_refl _) _
 have h4 := h.x4 rfl
 {g4w := h.g4w, but := h.but.trans (But.of_below hb (Nat.le_of_lt h4.lt)), x4 := fun _ => h4.below h4.lt hb, r0 := fun h1 h2 => (h.r0 h1 h2).below hb, r1 := fun h1 h2 => (h.r1 h1 h2).below hb, r2 := (fun e => nomatch e), c1 := h.c1, c2 := (fun e => nomatch e), ck := (fun e => nomatch e), cb := (fun e => nomatch e), cs := (fun e => nomatch e), bx := (fun e => nomatch e), fin := (fun e => nomatch e)
  kx := fun _ => ⟨V.heap.size, rfl, heap_alloc_last V _, h.but.1.size, fun h1 h2 => (h.r0 h1 h2).ne, fun h1 h2 => (h.r1 h1 h2).ne⟩ }
theorem CI.nk (h : CI W g4 tb z4 F i mk b0 b1 false b2 bb bs x0 x1 xk x2 xb V) (ck : b2 = false) : bb = false ∧ bs = false := by
 subst ck
 exact h.n2
theorem CI.one (h : CI W g4 tb z4 F i mk true false bk false false false x0 x1 xk x2 xb V) (hO : RowI W V2 v F) (hg : V.grownBy V2 x0.ownBlock) (hat : v.ownBlock = x0.ownBlock ∨ v.ownBlock = some V.heap.size) (hb : Below W.heap.size V V2) : CI W g4 tb z4 F i mk true true bk false false false x0 v xk x2 xb V2 :=
 {g4w := h.g4w, but := ⟨h.but.1.trans (hb.mono (Nat.le_of_lt h.g4w)), fun k hk hn => (hb.block k hk).trans (h.but.2 k hk hn)⟩, x4 := fun _ => (hb.block g4 h.g4w).trans (h.x4 rfl), r0 := (fun _ e => nomatch e), r1 := fun _ _ => hO, r2 := (fun e => nomatch e), c1 := fun _ => rfl, c2 := (fun e => nomatch e), ck := (fun e => nomatch e), cb := (fun e => nomatch e), cs := (fun e => nomatch e), bx := (fun e => nomatch e), fin := (fun e => nomatch e)
  kx := fun hk => by
   obtain ⟨g, e, hx, hw, h0, -⟩ := h.kx hk
   obtain ⟨h1, h2⟩ := kx_grown hx (h0 rfl rfl) hg hat
   exact ⟨g, e, h1, hw, (fun _ e => nomatch e), fun _ _ => h2⟩ }
theorem CI.two (h : CI W g4 tb z4 F i mk b0 true true false false false x0 x1 xk x2 xb V) (hO : RowI W V2 v (F ++ [i])) (hg : V.grownBy V2 x1.ownBlock) (hat : v.ownBlock = x1.ownBlock ∨ v.ownBlock = some V.heap.size) (hb : Below W.heap.size V V2) : CI W g4 tb z4 F i mk b0 true true true false false x0 x1 xk v xb V2 :=
 {g4w := h.g4w, but := ⟨h.but.1.trans (hb.mono (Nat.le_of_lt h.g4w)), fun k hk hn => (hb.block k hk).trans (h.but.2 k hk hn)⟩, x4 := fun _ => (hb.block g4 h.g4w).trans (h.x4 rfl), r0 := (fun e1 e => nomatch e), r1 := (fun _ e => nomatch e), r2 := fun _ => hO, c1 := h.c1, c2 := fun _ => rfl, ck := fun _ => rfl, cb := (fun e => nomatch e), cs := (fun e => nomatch e), bx := (fun e => nomatch e), fin := (fun e => nomatch e)
  kx := fun hk => by
   obtain ⟨g, e, hx, hw, -, h0⟩ := h.kx hk
   obtain ⟨h1, h2⟩ := kx_grown hx (h0 rfl rfl) hg hat
   exact ⟨g, e, h1, hw, (fun _ e => nomatch e), (fun _ e => nomatch e)⟩ }
theorem CI.build (h : CI W g4 tb z4 F i mk b0 b1 bk true false false x0 x1 xk x2 xb V) : CI W g4 tb z4 F i mk b0 b1 bk true true false x0 x1 xk x2 (.agg (mk x2)) V := { h with cb := fun _ => rfl, cs := (fun e => nomatch e), bx := fun _ => rfl }
theorem CI.store (h : CI W g4 tb z4 F i mk b0 b1 bk true true false x0 x1 xk x2 xb V) (hz : z4.size = (mk x2).size) (h1 : (mk x2).all (·.oneCell') = true) (hs : (Try.prog.info? tb).map (·.size) = some (mk x2).size) (hc1 : b1 = true) : ∃ V2, (Instr.storeAt tb (.pointer (some ⟨g4, 0, none⟩)) (.agg (mk x2))).run Try.prog V = .ok () V2 ∧ CI W g4 tb z4 F i mk b0 b1 bk true true true x0 x1 xk x2 xb V2 := by
 subst hc1
 obtain ⟨V2, hst, hX, hbt⟩ := st_all (cs' := mk x2) (ty := tb) (h.x4 rfl) hz h1 hs
 refine ⟨V2, hst, { g4w := h.g4w, but := h.but.trans hbt, x4 := (fun e => nomatch e), r0 := (fun _ e => nomatch e), r1 := (fun _ e => nomatch e), r2 := fun _ => ?_, c1 := h.c1, c2 := h.c2, ck := h.ck, cb := h.cb, cs := fun _ => rfl, bx := h.bx, fin := fun _ => hX, kx := fun hk => ?_ }⟩
 ·have h2 := h.r2 rfl
  obtain ⟨a2, c2, rfl, -, -⟩ := own_cs h2
  exact own_same2 h2 fun x hx => hbt.2 _ (h2.lt x.block (by rw [hx]; rfl)).2 (by have := (h2.lt x.block (by rw [hx]; rfl)).1; have := h.g4w; omega)
 ·obtain ⟨g, e, hx, hw, -, -⟩ := h.kx hk
  exact ⟨g, e, hx.but hbt (by have := h.g4w; omega), hw, (fun _ e => nomatch e), (fun _ e => nomatch e)⟩
end
end Go.Proofs.Ytmpajgaanghpoaa
