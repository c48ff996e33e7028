/-
 The walk of SlabApart.
-/
import Derived.Test.YtmpajgaanghpoaaWR
namespace Go.Proofs.Ytmpajgaanghpoaa
open Go.RowKit
set_option maxRecDepth 100000
set_option linter.unusedSimpArgs false
set_option linter.unusedVariables false

/-- The cells of an entry with any two slices. -/
def enS (e : En) (r p : Value) : Array Value := (kcl e.k ++ [r, .string e.snd, .int .u64 e.sq, .int .u64 e.gas, .int .u64 e.pri, .int .i64 e.ht, .int .i64 e.tm, .int .i64 e.od, p]).toArray
def RowU (V : World) (B : Nat) (x : Value) (L : List Int) : Prop := V.ownsRow B 5 1 x L.length (bcells L)
def RowJ (V : World) (B : Nat) (x : Value) (L : List Int) : Prop := V.ownsRow B 3 1 x L.length (icells L)
theorem bc_one (L : List Int) : ∀ u ∈ bcells L, u.oneCell' = true := fun u hu => by
 obtain ⟨x, -, rfl⟩ := List.mem_map.1 hu
 rfl
theorem app_u {w : World} {B : Nat} {v : Value} {A : List Int} (h : RowU w B v A) (hB : B ≤ w.heap.size) (pa : Option Addr) (n cp : Nat) (M : List Int) (hM : Cs w pa (bcells M)) (hn : M.length = n) (hl : A.length ≤ 100000) (hm : n ≤ 100000) :
  ∃ v' w', (Builtin.append_ #[41, 41] 41 #[v, .slice pa n cp]).run Try.prog w = .ok v' w' ∧ RowU w' B v' (A ++ M) ∧ Below B w w' ∧ w.grownBy w' v.ownBlock ∧ (v'.ownBlock = v.ownBlock ∨ v'.ownBlock = some w.heap.size) := by
 subst hn
 obtain ⟨v', w', h1, h2, h3⟩ := app_at (P := Try.prog) (t := 41) (m := M.length) Try.underlying41 info5 (by kernel_rfl) (by omega) (by omega) h pa cp (bcells M) hM (by simp [bcells]) (bc_one M) hB hl hm
 refine ⟨v', w', h1, ?_, h3⟩
 unfold RowU
 rw [show bcells (A ++ M) = bcells A ++ bcells M from List.map_append, List.length_append]
 exact h2
theorem app_j {w : World} {B : Nat} {v : Value} {A : List Int} (h : RowJ w B v A) (hB : B ≤ w.heap.size) (pa : Option Addr) (n cp : Nat) (M : List Int) (hM : Cs w pa (icells M)) (hn : M.length = n) (hl : A.length ≤ 100000) (hm : n ≤ 100000) :
  ∃ v' w', (Builtin.append_ #[22, 22] 22 #[v, .slice pa n cp]).run Try.prog w = .ok v' w' ∧ RowJ w' B v' (A ++ M) ∧ Below B w w' ∧ w.grownBy w' v.ownBlock ∧ (v'.ownBlock = v.ownBlock ∨ v'.ownBlock = some w.heap.size) := by
 subst hn
 obtain ⟨v', w', h1, h2, h3⟩ := app_at (P := Try.prog) (t := 22) (m := M.length) Try.underlying22 infoI (by kernel_rfl) (by omega) (by omega) h pa cp (icells M) hM (by simp [icells]) (icells_one M) hB hl hm
 refine ⟨v', w', h1, ?_, h3⟩
 unfold RowJ
 rw [icells_app, List.length_append]
 exact h2
theorem own_grown {w w' : World} {B e s n : Nat} {v : Value} {xs : List Value} {r : Option Nat} (h : w.ownsRow B e s v n xs) (hg : w.grownBy w' r) (hn : r = none ∨ r ≠ v.ownBlock) : w'.ownsRow B e s v n xs := by
 refine ⟨h.1, ?_⟩
 rcases h.2 with h0 | ⟨g, cap, cur, e0, hb, hgg, rest⟩
 ·exact .inl h0
 ·refine .inr ⟨g, cap, cur, e0, hb, ?_, rest⟩
  rw [← hgg]
  refine hg.block g (Array.getElem?_eq_some_iff.1 hgg).1 fun e => ?_
  rcases hn with hn | hn
  ·rw [hn] at e; cases e
  ·exact hn (by rw [← e, e0]; rfl)
theorem own_block (w : World) (e : TypeId) (cs : List Value) (n : Nat) (hl : cs.length = n * 1) (hn : n ≤ 1000) : (w.alloc (.cells cs.toArray e)).ownsRow w.heap.size e 1 (.slice (some ⟨w.heap.size, 0, none⟩) n n) n cs :=
 ⟨hl, .inr ⟨w.heap.size, n, cs.toArray, rfl, Nat.le_refl _, heap_alloc_last w _, Nat.le_refl _, by unfold maxLen; omega, by simpa using hl, by simp [← hl]⟩⟩
/-- A region that builds both slices of an entry and stores them. -/
structure KA (W : World) (g : Nat) (E : En) (r p : Value) (A0 A1 C0 C1 : List Int) (b0 l2 b3 b4 l6 b7 b9 b11 : Bool) (x0 x3 x4 x7 : Value) (V : World) : Prop where
 gw : g < W.heap.size
 but : But g W V
 bx : Bx V g (enS E (cond b9 x3 r) (cond b11 x7 p)) 44
 r0 : b0 = true → b3 = false → RowU V W.heap.size x0 A0
 r1 : b3 = true → RowU V W.heap.size x3 A1
 p0 : b4 = true → b7 = false → RowJ V W.heap.size x4 C0
 p1 : b7 = true → RowJ V W.heap.size x7 C1
 o3 : b3 = true → b0 = true
 o3l : b3 = true → l2 = true
 o7 : b7 = true → b4 = true
 o7l : b7 = true → l6 = true
 o9 : b9 = true → b3 = true
 o11 : b11 = true → b7 = true
section
variable {W V V2 : World} {g : Nat} {E : En} {r p : Value} {A0 A1 C0 C1 : List Int} {b0 l2 b3 b4 l6 b7 b9 b11 : Bool} {x0 x3 x4 x7 v : Value}
theorem KA.start (hg : g < W.heap.size) (h : Bx W g (enS E r p) 44) : KA W g E r p A0 A1 C0 C1 false false false false false false false false x0 x3 x4 x7 { W with drawn := W.drawn + 1 } :=
 {gw := hg, but := ⟨(Below.refl _ W).drew, fun _ _ _ => rfl⟩, bx := h.below hg (Below.refl _ W).drew, r0 := (fun e => nomatch e), r1 := (fun e => nomatch e), p0 := (fun e => nomatch e), p1 := (fun e => nomatch e), o3 := (fun e => nomatch e), o3l := (fun e => nomatch e), o7 := (fun e => nomatch e), o7l := (fun e => nomatch e), o9 := (fun e => nomatch e), o11 := (fun e => nomatch e) }
theorem KA.below (h : KA W g E r p A0 A1 C0 C1 b0 l2 b3 b4 l6 b7 b9 b11 x0 x3 x4 x7 V) (hb : Below V.heap.size V V2) : KA W g E r p A0 A1 C0 C1 b0 l2 b3 b4 l6 b7 b9 b11 x0 x3 x4 x7 V2 :=
 {h with but := h.but.trans (But.of_below hb (Nat.le_of_lt h.bx.lt)), bx := h.bx.below h.bx.lt hb, r0 := fun a b => own_below (h.r0 a b) hb, r1 := fun a => own_below (h.r1 a) hb, p0 := fun a b => own_below (h.p0 a b) hb, p1 := fun a => own_below (h.p1 a) hb }
theorem KA.n0 (h : KA W g E r p A0 A1 C0 C1 false l2 b3 b4 l6 b7 b9 b11 x0 x3 x4 x7 V) : b3 = false ∧ b9 = false := by
 obtain rfl := ffw h.o3 rfl
 obtain rfl := ffw h.o9 rfl
 exact ⟨rfl, rfl⟩
theorem KA.n3 (h : KA W g E r p A0 A1 C0 C1 b0 l2 false b4 l6 b7 b9 b11 x0 x3 x4 x7 V) : b9 = false := ffw h.o9 rfl
theorem KA.n4 (h : KA W g E r p A0 A1 C0 C1 b0 l2 b3 false l6 b7 b9 b11 x0 x3 x4 x7 V) : b7 = false ∧ b11 = false := by
 obtain rfl := ffw h.o7 rfl
 obtain rfl := ffw h.o11 rfl
 exact ⟨rfl, rfl⟩
theorem KA.n7 (h : KA W g E r p A0 A1 C0 C1 b0 l2 b3 b4 l6 false b9 b11 x0 x3 x4 x7 V) : b11 = false := ffw h.o11 rfl
theorem KA.nl2 (h : KA W g E r p A0 A1 C0 C1 b0 false b3 b4 l6 b7 b9 b11 x0 x3 x4 x7 V) : b3 = false ∧ b9 = false := by
 obtain rfl := ffw h.o3l rfl
 obtain rfl := ffw h.o9 rfl
 exact ⟨rfl, rfl⟩
theorem KA.nl6 (h : KA W g E r p A0 A1 C0 C1 b0 l2 b3 b4 false b7 b9 b11 x0 x3 x4 x7 V) : b7 = false ∧ b11 = false := by
 obtain rfl := ffw h.o7l rfl
 obtain rfl := ffw h.o11 rfl
 exact ⟨rfl, rfl⟩
theorem KA.sl2 (h : KA W g E r p A0 A1 C0 C1 b0 false false b4 l6 b7 b9 b11 x0 x3 x4 x7 V) : KA W g E r p A0 A1 C0 C1 b0 true false b4 l6 b7 b9 b11 x0 x3 x4 x7 V := { h with o3l := fun _ => rfl }
theorem KA.sl6 (h : KA W g E r p A0 A1 C0 C1 b0 l2 b3 b4 false false b9 b11 x0 x3 x4 x7 V) : KA W g E r p A0 A1 C0 C1 b0 l2 b3 b4 true false b9 b11 x0 x3 x4 x7 V := { h with o7l := fun _ => rfl }
theorem KA.s0 (h : KA W g E r p A0 A1 C0 C1 false l2 false b4 l6 b7 false b11 x0 x3 x4 x7 V) (hb : Below V.heap.size V V2) (hr : RowU V2 W.heap.size v A0) : KA W g E r p A0 A1 C0 C1 true l2 false b4 l6 b7 false b11 v x3 x4 x7 V2 := { h.below hb with r0 := fun _ _ => hr, o3 := (fun e => nomatch e) }
theorem KA.s4 (h : KA W g E r p A0 A1 C0 C1 b0 l2 b3 false l6 false b9 false x0 x3 x4 x7 V) (hb : Below V.heap.size V V2) (hr : RowJ V2 W.heap.size v C0) : KA W g E r p A0 A1 C0 C1 b0 l2 b3 true l6 false b9 false x0 x3 v x7 V2 := { h.below hb with p0 := fun _ _ => hr, o7 := (fun e => nomatch e) }
theorem KA.s3 (h : KA W g E r p A0 A1 C0 C1 true true false b4 l6 b7 false b11 x0 x3 x4 x7 V) (hr : RowU V2 W.heap.size v A1) (hb : Below W.heap.size V V2) (hg : V.grownBy V2 x0.ownBlock) : KA W g E r p A0 A1 C0 C1 true true true b4 l6 b7 false b11 x0 v x4 x7 V2 :=
 {gw := h.gw, but := ⟨h.but.1.trans (hb.mono (Nat.le_of_lt h.gw)), fun k hk hn => (hb.block k hk).trans (h.but.2 k hk hn)⟩, bx := h.bx.below h.gw hb, r0 := (fun _ e => nomatch e), r1 := fun _ => hr, p0 := fun a b => own_grown (h.p0 a b) hg (own_ne (h.r0 rfl rfl) (h.p0 a b) (by decide)), p1 := fun a => own_grown (h.p1 a) hg (own_ne (h.r0 rfl rfl) (h.p1 a) (by decide)), o3 := fun _ => rfl, o3l := fun _ => rfl, o7 := h.o7, o7l := h.o7l, o9 := (fun e => nomatch e), o11 := h.o11 }
theorem KA.s7 (h : KA W g E r p A0 A1 C0 C1 b0 l2 b3 true true false b9 false x0 x3 x4 x7 V) (hr : RowJ V2 W.heap.size v C1) (hb : Below W.heap.size V V2) (hg : V.grownBy V2 x4.ownBlock) : KA W g E r p A0 A1 C0 C1 b0 l2 b3 true true true b9 false x0 x3 x4 v V2 :=
 {gw := h.gw, but := ⟨h.but.1.trans (hb.mono (Nat.le_of_lt h.gw)), fun k hk hn => (hb.block k hk).trans (h.but.2 k hk hn)⟩, bx := h.bx.below h.gw hb, p0 := (fun _ e => nomatch e), p1 := fun _ => hr, r0 := fun a b => own_grown (h.r0 a b) hg (own_ne (h.p0 rfl rfl) (h.r0 a b) (by decide)), r1 := fun a => own_grown (h.r1 a) hg (own_ne (h.p0 rfl rfl) (h.r1 a) (by decide)), o3 := h.o3, o3l := h.o3l, o7 := fun _ => rfl, o7l := fun _ => rfl, o9 := h.o9, o11 := (fun e => nomatch e) }
theorem own_butv {w w' : World} {g B e s n : Nat} {v : Value} {xs : List Value} (h : w.ownsRow B e s v n xs) (hb : But g w w') (hn : g < B) : w'.ownsRow B e s v n xs := by
 obtain ⟨a, c, rfl, -, -⟩ := own_cs h
 exact own_butq h hb fun x hx => by have := (h.lt x.block (by rw [hx]; rfl)).1; omega
theorem KA.s9 (h : KA W g E r p A0 A1 C0 C1 b0 l2 true b4 l6 b7 false b11 x0 x3 x4 x7 V) : ∃ V2, (Instr.storeAt 41 (.pointer (some ⟨g, 32, none⟩)) x3).run Try.prog V = .ok () V2 ∧ KA W g E r p A0 A1 C0 C1 b0 l2 true b4 l6 b7 true b11 x0 x3 x4 x7 V2 := by
 have h1 := h.r1 rfl
 obtain ⟨a, n, c, rfl⟩ := own_vs h1
 obtain ⟨V2, hst, hX, hbt⟩ := st_fld (i := 32) (ty := 41) (v := .slice a n c) (enS E (.slice a n c) (cond b11 x7 p)) h.bx (by show 32 < 41; decide) (by kernel_rfl) rfl (by kernel_rfl)
 exact ⟨V2, hst, { h with but := h.but.trans hbt, bx := hX, r0 := fun a b => own_butv (h.r0 a b) hbt h.gw, r1 := fun a => own_butv (h.r1 a) hbt h.gw, p0 := fun a b => own_butv (h.p0 a b) hbt h.gw, p1 := fun a => own_butv (h.p1 a) hbt h.gw, o9 := fun _ => rfl }⟩
theorem KA.s11 (h : KA W g E r p A0 A1 C0 C1 b0 l2 b3 b4 l6 true b9 false x0 x3 x4 x7 V) : ∃ V2, (Instr.storeAt 22 (.pointer (some ⟨g, 40, none⟩)) x7).run Try.prog V = .ok () V2 ∧ KA W g E r p A0 A1 C0 C1 b0 l2 b3 b4 l6 true b9 true x0 x3 x4 x7 V2 := by
 have h1 := h.p1 rfl
 obtain ⟨a, n, c, rfl⟩ := own_vs h1
 obtain ⟨V2, hst, hX, hbt⟩ := st_fld (i := 40) (ty := 22) (v := .slice a n c) (enS E (cond b9 x3 r) (.slice a n c)) h.bx (by show 40 < 41; decide) (by kernel_rfl) rfl (by kernel_rfl)
 exact ⟨V2, hst, { h with but := h.but.trans hbt, bx := hX, r0 := fun a b => own_butv (h.r0 a b) hbt h.gw, r1 := fun a => own_butv (h.r1 a) hbt h.gw, p0 := fun a b => own_butv (h.p0 a b) hbt h.gw, p1 := fun a => own_butv (h.p1 a) hbt h.gw, o11 := fun _ => rfl }⟩
/-- All is done: the entry. -/
theorem KA.fin {E1 : En} (h : KA W g E r p A0 A1 C0 C1 true true true true true true true true x0 x3 x4 x7 V) (hE : E1 = { E with raw := A1, prs := C1 }) : ∃ d, Bx V g (enA E1 d) 44 ∧ EnW V W.heap.size E1 d := by
 subst hE
 have h1 := h.r1 rfl
 have h2 := h.p1 rfl
 obtain ⟨a, c, rfl, -, -⟩ := own_cs h1
 obtain ⟨a2, c2, rfl, -, -⟩ := own_cs h2
 exact ⟨⟨a, c, a2, c2⟩, h.bx, h1, h2⟩
end
theorem build_u (cs : List Int) (parts : Array (Nat × Value)) (hp : parts = #[(0, .int .u8 1)]) (V : World) : (Instr.buildSlice 41 1 #[(0, .int .u8 1)]).run Try.prog V = .ok (.slice (some ⟨V.heap.size, 0, none⟩) 1 1) (V.alloc (.cells (bcells [1]).toArray 5)) := by
 obtain ⟨i0, hi, hz0, hz1, hz2⟩ := info_parts info5
 refine run_buildSlice V 41 5 1 _ (bcells [1]).toArray i0 _ Try.underlying41 hi hz0 (by rw [hz1]; omega) (by rw [hz1]; omega) ?_
 rw [hz1]
 kernel_rfl
theorem nil_u (w : World) : (Instr.buildSlice 41 0 #[]).run Try.prog w = .ok (.slice (some ⟨w.heap.size, 0, none⟩) 0 0) (w.alloc (.cells #[] 5)) := build_nil Try.underlying41 info5 w
/-- The bits of a byte: whatever they are. -/
theorem or_u8 (x y : Int) : ∃ v : Int, ∀ (ρ : Operand → Value) (o : Oper) (p q : Operand), o.op = .binOp .or 5 p q 5 → ρ p = .int .u8 x → ρ q = .int .u8 y → ∀ w, (execOp ρ o).run Try.prog w = .ok (.value (.int .u8 v)) w := by
 refine ⟨bits .or .u8 x y, fun ρ o p q ho hx hy w => ?_⟩
 unfold execOp
 simp only [ho, hx, hy]
 go_simp
theorem xor_u8 (x y : Int) : ∃ v : Int, ∀ (ρ : Operand → Value) (o : Oper) (p q : Operand), o.op = .binOp .xor 5 p q 5 → ρ p = .int .u8 x → ρ q = .int .u8 y → ∀ w, (execOp ρ o).run Try.prog w = .ok (.value (.int .u8 v)) w := by
 refine ⟨bits .xor .u8 x y, fun ρ o p q ho hx hy w => ?_⟩
 unfold execOp
 simp only [ho, hx, hy]
 go_simp
end Go.Proofs.Ytmpajgaanghpoaa
