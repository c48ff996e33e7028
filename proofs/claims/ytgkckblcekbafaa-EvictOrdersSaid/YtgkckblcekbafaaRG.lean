/-
  Rows of entries that a drawn region builds; the reference's Without: contract.
-/
import Derived.Test.YtgkckblcekbafaaPC
namespace Go.Proofs.Ytgkckblcekbafaa
open Go.RowKit
set_option maxRecDepth 100000
set_option linter.unusedSimpArgs false
set_option linter.unusedVariables false

/-- A value that is a slice. -/
def IsSl (v : Value) : Prop := ∃ a n c, v = .slice a n c
theorem own_vs {w : World} {B e s n : Nat} {v : Value} {xs : List Value} (h : w.ownsRow B e s v n xs) : IsSl v := by
 obtain ⟨a, c, e, -⟩ := own_cs h
 exact ⟨a, n, c, e⟩
theorem own_nc {w : World} {B e s n n2 c : Nat} {a : Option Addr} {xs : List Value} (h : w.ownsRow B e s (.slice a n c) n2 xs) : Cs w a xs ∧ n2 ≤ c := by
 obtain ⟨a2, c2, e2, h1, h2⟩ := own_cs h
 simp only [Value.slice.injEq] at e2
 obtain ⟨rfl, -, rfl⟩ := e2
 exact ⟨h1, h2⟩
theorem own_rb {w : World} {B e s n n2 c : Nat} {a : Option Addr} {xs : List Value} (h : w.ownsRow B e s (.slice a n c) n2 xs) {k : Nat} (hk : rb a xs k) : B ≤ k := by
 obtain ⟨-, x, hx, rfl⟩ := hk
 exact (h.lt x.block (by rw [hx]; rfl)).1
theorem own_rb' {w : World} {B e s n n2 c : Nat} {a : Option Addr} {xs : List Value} (h : w.ownsRow B e s (.slice a n c) n2 xs) {ys : List Value} {k : Nat} (hk : rb a ys k) : B ≤ k := by
 obtain ⟨-, x, hx, rfl⟩ := hk
 exact (h.lt x.block (by rw [hx]; rfl)).1
theorem rg_below {w w' : World} {b o : Nat} {cs : List Value} (h : w.rangeAt b o cs) (hb : Below w.heap.size w w') : w'.rangeAt b o cs := fun j v hv => by
 have := h j v hv
 exact (hb.cell (p := ⟨b, o + j, none⟩) (World.block_lt_of_cell? w _ this)).trans this
section
variable {P : Program} {t e s bytes : Nat} {z : Value}
/-- 'append' of any part to a row of the call's own: where the new row lies. -/
theorem app_at (hu : P.underlying t = some (.slice e)) (hinfo : (P.info? e).map (fun i => (i.zero, i.size, i.bytes)) = some (some z, s, bytes)) (hzs : z.cells.size = s) (hs : 0 < s) (hby : bytes ≤ 1000)
  {w : World} {B n m : Nat} {v : Value} {xs : List Value} (hO : w.ownsRow B e s v n xs) (pa : Option Addr) (cp : Nat) (ys : List Value) (hP : Cs w pa ys) (hl : ys.length = m * s) (h1 : ∀ u ∈ ys, u.oneCell' = true) (hB : B ≤ w.heap.size) (hn : n ≤ 100000) (hm : m ≤ 100000) :
  ∃ v' w', (Builtin.append_ #[t, t] t #[v, .slice pa m cp]).run P w = .ok v' w' ∧ w'.ownsRow B e s v' (n + m) (xs ++ ys) ∧ Below B w w' ∧ w.grownBy w' v.ownBlock ∧ (v'.ownBlock = v.ownBlock ∨ v'.ownBlock = some w.heap.size) := by
 obtain ⟨i0, hi, hz0, hz1, hz2⟩ := info_parts hinfo
 by_cases hy : ys = []
 ·subst hy
  obtain rfl : m = 0 := by
   rcases Nat.eq_zero_or_pos m with h | h
   ·exact h
   ·have := Nat.mul_pos h hs
    rw [← hl] at this
    simp at this
  cases pa with
  | none =>
   refine ⟨v, w, ?_, by simpa using hO, Below.refl _ _, World.grownBy.refl w _, .inl rfl⟩
   rcases hO.2 with ⟨rfl, h0⟩ | ⟨g, cap, cur, rfl, _, _, hnc, _⟩
   ·simp [Builtin.append_, run_underlying hu, sizeOf, typeInfo, hi, Builtin.lenOf, Builtin.firstCells]
   ·simp [Builtin.append_, run_underlying hu, sizeOf, typeInfo, hi, Builtin.lenOf, Builtin.firstCells, hnc, storeCells]
  | some x =>
   obtain ⟨v', w', hr, h2, h3, -, h4⟩ := run_append_own_at (P := P) w B t t e i0 z s bytes hu hi hz0 hz1 hz2 hzs hs v n xs hO x 0 cp [] (by simp) (fun j u h => by simp at h) (by simp) (by unfold maxLen; omega) (by have := Nat.mul_le_mul (show n + 0 ≤ 100000 by omega) hby; omega) hB
   exact ⟨v', w', hr, h2, (Below.refl _ w).grown h3 hB (fun j hj => (hO.lt j hj).1), h3, h4⟩
 ·obtain ⟨y, hy0⟩ : ∃ y, ys[0]? = some y := by
   cases ys with
   | nil => exact absurd rfl hy
   | cons y r => exact ⟨y, rfl⟩
  obtain ⟨b, off, rfl, -⟩ := hP 0 y hy0
  have hcells : ∀ j u, ys[j]? = some u → w.cell? ((⟨b, off, none⟩ : Addr).add j) = some u := fun j u hu => by
   obtain ⟨b2, off2, e2, -, hc⟩ := hP j u hu
   simp only [Option.some.injEq, Addr.mk.injEq, and_true] at e2
   obtain ⟨rfl, rfl⟩ := e2
   rw [Addr.add_mid]
   exact hc
  obtain ⟨v', w', hr, h2, h3, -, h4⟩ := run_append_own_at (P := P) w B t t e i0 z s bytes hu hi hz0 hz1 hz2 hzs hs v n xs hO ⟨b, off, none⟩ m cp ys hl hcells h1 (by unfold maxLen; omega) (by have := Nat.mul_le_mul (show n + m ≤ 200000 by omega) hby; omega) hB
  exact ⟨v', w', hr, h2, (Below.refl _ w).grown h3 hB (fun j hj => (hO.lt j hj).1), h3, h4⟩
end
theorem infoEe : (Try.prog.info? 50).map (fun i => (i.zero, i.size, i.bytes)) = some (some (.agg (enA zEn zAd)), 41, 144) := by kernel_rfl
theorem ens_one (L : List (En × Ad)) : ∀ u ∈ ens L, u.oneCell' = true := fl_one enp enp_one L
theorem ens_app (A B : List (En × Ad)) : ens (A ++ B) = ens A ++ ens B := List.flatMap_append
theorem ens_take (L : List (En × Ad)) (k : Nat) : (ens L).take (k * 41) = ens (L.take k) := fl_take enp enp_len L k
theorem ens_drop (L : List (En × Ad)) (k : Nat) : (ens L).drop (k * 41) = ens (L.drop k) := fl_drop enp enp_len L k
theorem build_ee (x : En × Ad) (V : World) : (Instr.buildSlice 22 1 #[(0, .agg (enA x.1 x.2))]).run Try.prog V = .ok (.slice (some ⟨V.heap.size, 0, none⟩) 1 1) (V.alloc (.cells (enA x.1 x.2) 50)) := by
  obtain ⟨i0, hi, hz0, hz1, hz2⟩ := info_parts infoEe
  refine run_buildSlice V 22 50 1 _ (enA x.1 x.2) i0 _ Try.underlying22 hi hz0 (by rw [hz1]; omega) (by rw [hz1]; omega) ?_
  rw [hz1]
  kernel_rfl
theorem nil_ee (w : World) : (Instr.buildSlice 22 0 #[]).run Try.prog w = .ok (.slice (some ⟨w.heap.size, 0, none⟩) 0 0) (w.alloc (.cells #[] 50)) := build_nil Try.underlying22 infoEe w
theorem cut_ee_to (a : Option Addr) (n c k : Nat) (w : World) (h : k ≤ c) : (Instr.slice 22 (.slice a n c) none (some (.int .i64 (k : Int))) none).run Try.prog w = .ok (.slice a k c) w := cut_to (s := 41) (by kernel_rfl) (fun w => by kernel_rfl) a n c k w h
theorem cut_ee_from (a : Option Addr) (n c k : Nat) (w : World) (h : k ≤ n) : (Instr.slice 22 (.slice a n c) (some (.int .i64 (k : Int))) none none).run Try.prog w = .ok (.slice (fromS 41 a c k) (n - k) (c - k)) w := cut_from (s := 41) (by kernel_rfl) (fun w => by kernel_rfl) a n c k w h
/-- A row of the call's own. -/
def Rowee (w : World) (B : Nat) (v : Value) (L : List (En × Ad)) : Prop := w.ownsRow B 50 41 v L.length (ens L)
theorem Rowee.cs {w : World} {B : Nat} {v : Value} {L : List (En × Ad)} (h : Rowee w B v L) : ∃ a c, v = .slice a L.length c ∧ Cs w a (ens L) ∧ L.length ≤ c := own_cs h
theorem app_ee {w : World} {B : Nat} {v : Value} {A : List (En × Ad)} (h : Rowee w B v A) (hB : B ≤ w.heap.size) (pa : Option Addr) (n cp : Nat) (M : List (En × Ad)) (hM : Cs w pa (ens M)) (hn : M.length = n) (hl : A.length ≤ 100000) (hm : n ≤ 100000) :
    ∃ v' w', (Builtin.append_ #[22, 22] 22 #[v, .slice pa n cp]).run Try.prog w = .ok v' w' ∧ Rowee w' B v' (A ++ M) ∧ Below B w w' ∧ w.grownBy w' v.ownBlock ∧ (v'.ownBlock = v.ownBlock ∨ v'.ownBlock = some w.heap.size) := by
  subst hn
  obtain ⟨v', w', h1, h2, h3⟩ := app_at (P := Try.prog) (t := 22) (m := M.length) Try.underlying22 infoEe (by kernel_rfl) (by omega) (by omega) h pa cp (ens M) hM (ens_len M) (ens_one M) hB hl hm
  refine ⟨v', w', h1, ?_, h3⟩
  unfold Rowee
  rw [ens_app, List.length_append]
  exact h2
def Row (V0 V : World) (x : Value) (L : List (En × Ad)) : Prop := V.ownsRow V0.heap.size 50 41 x L.length (ens L)
theorem Row.below {V0 V V2 : World} {x : Value} {L : List (En × Ad)} (h : Row V0 V x L) (hb : Below V.heap.size V V2) : Row V0 V2 x L := own_below h hb
/-- A row of keys is appended: where the new row lies. -/
theorem Row.app {V0 V : World} {x : Value} {L : List (En × Ad)} (h : Row V0 V x L) (hV : V0.heap.size ≤ V.heap.size) (pa : Option Addr) (m cp : Nat) (P : List (En × Ad)) (hP : Cs V pa (ens P)) (hm : P.length = m) (hl : L.length ≤ 100000) (hp : m ≤ 100000) :
    ∃ v V2, (Builtin.append_ #[22, 22] 22 #[x, .slice pa m cp]).run Try.prog V = .ok v V2 ∧ Row V0 V2 v (L ++ P) ∧ Below V0.heap.size V V2 ∧ V.grownBy V2 x.ownBlock ∧ (v.ownBlock = x.ownBlock ∨ v.ownBlock = some V.heap.size) := app_ee h hV pa m cp P hP hm hl hp
/-- What a region keeps that builds a row of keys in up to three steps; and a slice of one key beside it. -/
structure CH (V0 : World) (k : En × Ad) (L1 L2 L3 : List (En × Ad)) (b0 b1 b2 b3 bk : Bool) (x0 x1 x2 x3 xk : Value) (V : World) : Prop where
  bel : Below V0.heap.size V0 V
  r0 : b0 = true → b1 = false → Row V0 V x0 []
  r1 : b1 = true → b2 = false → Row V0 V x1 L1
  r2 : b2 = true → b3 = false → Row V0 V x2 L2
  r3 : b3 = true → Row V0 V x3 L3
  c1 : b1 = true → b0 = true
  c2 : b2 = true → b1 = true
  c3 : b3 = true → b2 = true
  kx : bk = true → ∃ g, xk = .slice (some ⟨g, 0, none⟩) 1 1 ∧ Bx V g (enA k.1 k.2) 50 ∧ (b0 = true → b1 = false → x0.ownBlock ≠ some g) ∧ (b1 = true → b2 = false → x1.ownBlock ≠ some g) ∧ (b2 = true → b3 = false → x2.ownBlock ≠ some g)
section
variable {V0 V V2 : World} {k : En × Ad} {L1 L2 L3 : List (En × Ad)} {b0 b1 b2 b3 bk : Bool} {x0 x1 x2 x3 xk v : Value}
theorem Row.ne {x : Value} {L : List (En × Ad)} (h : Row V0 V x L) : x.ownBlock ≠ some V.heap.size := fun e => Nat.lt_irrefl _ (h.lt _ e).2
theorem CH.nil (h : CH V0 k L1 L2 L3 false false false false bk x0 x1 x2 x3 xk V) : CH V0 k L1 L2 L3 true false false false bk (.slice (some ⟨V.heap.size, 0, none⟩) 0 0) x1 x2 x3 xk (V.alloc (.cells #[] 50)) :=
  have hb : Below V.heap.size V (V.alloc (.cells #[] 50)) := (Below.refl _ V).alloc (Nat.le_refl _) _
  { bel := h.bel.trans (hb.mono h.bel.size), r0 := fun _ _ => own_base (own_nil V 50 41) h.bel.size, r1 := fun h1 => (by cases h1), r2 := fun h1 => (by cases h1), r3 := fun h1 => (by cases h1), c1 := fun h1 => (by cases h1), c2 := fun h1 => (by cases h1), c3 := fun h1 => (by cases h1)
    kx := fun hk => by
      obtain ⟨g, e, hx, -⟩ := h.kx hk
      exact ⟨g, e, hx.below hx.lt hb, fun _ _ e2 => by have := hx.lt; simp only [Value.ownBlock, Option.some.injEq] at e2; omega, fun h1 => (by cases h1), fun h1 => (by cases h1)⟩ }
theorem CH.key (h : CH V0 k L1 L2 L3 b0 b1 b2 b3 false x0 x1 x2 x3 xk V) : CH V0 k L1 L2 L3 b0 b1 b2 b3 true x0 x1 x2 x3 (.slice (some ⟨V.heap.size, 0, none⟩) 1 1) (V.alloc (.cells (enA k.1 k.2) 50)) :=
  have hb : Below V.heap.size V (V.alloc (.cells (enA k.1 k.2) 50)) := (Below.refl _ V).alloc (Nat.le_refl _) _
  { bel := h.bel.trans (hb.mono h.bel.size), r0 := fun h1 h2 => (h.r0 h1 h2).below hb, r1 := fun h1 h2 => (h.r1 h1 h2).below hb, r2 := fun h1 h2 => (h.r2 h1 h2).below hb, r3 := fun h1 => (h.r3 h1).below hb, c1 := h.c1, c2 := h.c2, c3 := h.c3
    kx := fun _ => ⟨V.heap.size, rfl, heap_alloc_last V _, fun h1 h2 => (h.r0 h1 h2).ne, fun h1 h2 => (h.r1 h1 h2).ne, fun h1 h2 => (h.r2 h1 h2).ne⟩ }
theorem kx_grown {g : Nat} {x y : Value} (hx : Bx V g (enA k.1 k.2) 50) (hn : x.ownBlock ≠ some g) (hg : V.grownBy V2 x.ownBlock) (hat : y.ownBlock = x.ownBlock ∨ y.ownBlock = some V.heap.size) : Bx V2 g (enA k.1 k.2) 50 ∧ y.ownBlock ≠ some g :=
  ⟨(hg.block g hx.lt (Ne.symm hn)).trans hx, fun e => hat.elim (fun h => hn (h.symm.trans e)) fun h => by
    have h2 := h.symm.trans e
    have := hx.lt
    simp only [Option.some.injEq] at h2
    omega⟩
theorem CH.one (h : CH V0 k L1 L2 L3 true false false false bk x0 x1 x2 x3 xk V) (hO : Row V0 V2 v L1) (hb : Below V0.heap.size V V2) (hg : V.grownBy V2 x0.ownBlock) (hat : v.ownBlock = x0.ownBlock ∨ v.ownBlock = some V.heap.size) : CH V0 k L1 L2 L3 true true false false bk x0 v x2 x3 xk V2 :=
  { bel := h.bel.trans hb, r0 := fun _ h1 => (by cases h1), r1 := fun _ _ => hO, r2 := fun h1 => (by cases h1), r3 := fun h1 => (by cases h1), c1 := fun _ => rfl, c2 := fun h1 => (by cases h1), c3 := fun h1 => (by cases h1)
    kx := fun hk => by
      obtain ⟨g, e, hx, h0, -⟩ := h.kx hk
      obtain ⟨h1, h2⟩ := kx_grown hx (h0 rfl rfl) hg hat
      exact ⟨g, e, h1, fun _ h3 => (by cases h3), fun _ _ => h2, fun h3 => (by cases h3)⟩ }
theorem CH.two (h : CH V0 k L1 L2 L3 b0 true false false bk x0 x1 x2 x3 xk V) (hO : Row V0 V2 v L2) (hb : Below V0.heap.size V V2) (hg : V.grownBy V2 x1.ownBlock) (hat : v.ownBlock = x1.ownBlock ∨ v.ownBlock = some V.heap.size) : CH V0 k L1 L2 L3 b0 true true false bk x0 x1 v x3 xk V2 :=
  { bel := h.bel.trans hb, r0 := fun _ h1 => (by cases h1), r1 := fun _ h1 => (by cases h1), r2 := fun _ _ => hO, r3 := fun h1 => (by cases h1), c1 := h.c1, c2 := fun _ => rfl, c3 := fun h1 => (by cases h1)
    kx := fun hk => by
      obtain ⟨g, e, hx, -, h0, -⟩ := h.kx hk
      obtain ⟨h1, h2⟩ := kx_grown hx (h0 rfl rfl) hg hat
      exact ⟨g, e, h1, fun _ h3 => (by cases h3), fun _ h3 => (by cases h3), fun _ _ => h2⟩ }
theorem CH.three (h : CH V0 k L1 L2 L3 b0 b1 true false bk x0 x1 x2 x3 xk V) (hO : Row V0 V2 v L3) (hb : Below V0.heap.size V V2) (hg : V.grownBy V2 x2.ownBlock) (hat : v.ownBlock = x2.ownBlock ∨ v.ownBlock = some V.heap.size) : CH V0 k L1 L2 L3 b0 b1 true true bk x0 x1 x2 v xk V2 :=
  have hb1 := h.c2 rfl
  { bel := h.bel.trans hb, r0 := fun _ h1 => (by rw [hb1] at h1; cases h1), r1 := fun _ h1 => (by cases h1), r2 := fun _ h1 => (by cases h1), r3 := fun _ => hO, c1 := h.c1, c2 := h.c2, c3 := fun _ => rfl
    kx := fun hk => by
      obtain ⟨g, e, hx, -, -, h0⟩ := h.kx hk
      obtain ⟨h1, h2⟩ := kx_grown hx (h0 rfl rfl) hg hat
      exact ⟨g, e, h1, fun _ h3 => (by rw [hb1] at h3; cases h3), fun _ h3 => (by cases h3), fun _ h3 => (by cases h3)⟩ }
theorem CH.start (V0 : World) (k : En × Ad) (L1 L2 L3 : List (En × Ad)) (x0 x1 x2 x3 xk : Value) : CH V0 k L1 L2 L3 false false false false false x0 x1 x2 x3 xk { V0 with drawn := V0.drawn + 1 } :=
  { bel := (Below.refl _ V0).drew, r0 := fun h1 => (by cases h1), r1 := fun h1 => (by cases h1), r2 := fun h1 => (by cases h1), r3 := fun h1 => (by cases h1), c1 := fun h1 => (by cases h1), c2 := fun h1 => (by cases h1), c3 := fun h1 => (by cases h1), kx := fun h1 => (by cases h1) }
end
/-- A part of entries in a row: the parts' entries are there too. -/
theorem sub_en {w : World} {X : List (En × Ad)} (h : ∀ i, i < X.length → EnI w (X.getD i zEA).1 (X.getD i zEA).2) : ∀ x ∈ X, EnI w x.1 x.2 := fun x hx => by
  obtain ⟨i, hi, rfl⟩ := List.getElem_of_mem hx
  have := h i hi
  rwa [List.getD_eq_getElem?_getD, List.getElem?_eq_getElem hi] at this
theorem en_sub {w : World} {X : List (En × Ad)} (h : ∀ x ∈ X, EnI w x.1 x.2) : ∀ i, i < X.length → EnI w (X.getD i zEA).1 (X.getD i zEA).2 := fun i hi => by
  rw [List.getD_eq_getElem?_getD, List.getElem?_eq_getElem hi]
  exact h _ (List.getElem_mem hi)
/-- A new row of entries: its own cells are new, what they lead to was there. -/
def XrO (w : World) (X : List (En × Ad)) (v : Value) (w' : World) : Prop := ∃ a c, v = .slice a X.length c ∧ Xr w' a X ∧ X.length ≤ c ∧ (∀ k, rb a (ens X) k → w.heap.size ≤ k) ∧ Below w.heap.size w w'
theorem XrO.new {w V : World} {X : List (En × Ad)} {v : Value} (h : Rowee V w.heap.size v X) (he : ∀ x ∈ X, EnI w x.1 x.2) (hb : Below w.heap.size w V) : XrO w X v V := by
  obtain ⟨a, c, rfl, h1, h2⟩ := h.cs
  exact ⟨a, c, rfl, ⟨h1, en_sub fun x hx => (he x hx).below hb⟩, h2, fun k hk => own_rb' h hk, hb⟩
end Go.Proofs.Ytgkckblcekbafaa
