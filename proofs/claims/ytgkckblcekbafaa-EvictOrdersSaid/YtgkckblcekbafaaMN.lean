/-
 mempoolmake's Entry: contract.
-/
import Derived.Test.YtgkckblcekbafaaMK
namespace Go.Proofs.Ytgkckblcekbafaa
attribute [local irreducible] wpList wpQuiet
open Go.RowKit
set_option maxRecDepth 100000
set_option linter.unusedSimpArgs false
set_option linter.unusedVariables false

theorem key_fn (L : List Int) (h : L.length = 32) : (w8s L) = kcA (fun i => L.getD i 0) := by
 have e : (List.range 32).map (fun i => L.getD i 0) = L := by
  apply List.ext_getElem (by simp [h])
  intro i h1 h2
  rw [List.getElem_map, List.getElem_range, getD_lt _ _ _ h2]
 show _ = w8s ((List.range 32).map (fun i => L.getD i 0))
 rw [e]
theorem shaL_len (L : List Int) : (shaL L).length = 32 := by
 unfold shaL
 exact outs_len _ _
theorem make_by (w : World) (n : Nat) (hn : n ≤ 100000) : ∃ w1, (Instr.makeSlice 48 (.int .i64 (n : Int)) (.int .i64 (n : Int))).run Try.prog w = .ok (.slice (some ⟨w.heap.size, 0, none⟩) n n) w1 ∧ w1.ownsRow w.heap.size 5 1 (.slice (some ⟨w.heap.size, 0, none⟩) n n) n (bcells (List.replicate n 0)) ∧ Below w.heap.size w w1 := by
 obtain ⟨i0, hi, hz0, hz1, hz2⟩ := info_parts info5
 obtain ⟨w1, hr, hO, hg⟩ := run_makeSlice_full (P := Try.prog) w w.heap.size 48 5 i0 _ 1 Try.underlying48 hi hz0 hz1 .i64 .i64 n (by omega) (by rw [hz2]; omega) (by unfold maxLen; omega) (Nat.le_refl _)
 refine ⟨w1, hr, ?_, hg.os, hg.tape, hg.output, hg.size, fun k hk => hg.block k hk (by simp)⟩
 have e : (madeCells (Value.int .u8 0).cells (n * 1)).toList = bcells (List.replicate n (0 : Int)) := by
  rw [Nat.mul_one]
  show (madeCells #[Value.int .u8 0] n).toList = _
  rw [toList_madeCells_one]
  unfold bcells
  rw [List.map_replicate]
 rw [← e]
 exact hO
theorem st_by {w : World} {B b n c i : Nat} {M : List Int} (h : w.ownsRow B 5 1 (.slice (some ⟨b, 0, none⟩) n c) n (bcells M)) (hi : i < n) (v : Int) : ∃ V2, (Instr.storeAt 5 (.pointer (some ⟨b, 0 + i, none⟩)) (.int .u8 v)).run Try.prog w = .ok () V2 ∧ V2.ownsRow B 5 1 (.slice (some ⟨b, 0, none⟩) n c) n (bcells (M.set i v)) ∧ But b w V2 := by
 obtain ⟨cur, hcur, hsz, -, -⟩ := own_row h
 have hl := h.1
 rw [Nat.zero_add]
 refine ⟨_, run_store_cell hcur (by omega) rfl (by kernel_rfl), ?_, But.setCell w i _⟩
 have h2 := own_set h i (.int .u8 v) (by rw [hl]; omega)
 unfold bcells at h2 ⊢
 rw [List.map_set]
 exact h2
/-- While the bytes are drawn. -/
structure Er (w : World) (g : Nat) (a : Option Addr) (c : Nat) (L : List Int) (g2 g3 n N : Nat) (M : List Int) (V : World) : Prop where
 nm : Nm V g a c L N
 but : But g w V
 b2 : Bx V g2 (enA zEn zAd) 50
 row : V.ownsRow w.heap.size 5 1 (.slice (some ⟨g3, 0, none⟩) n n) n (bcells M)
 ml : M.length = n
 w8 : ∀ x, x ∈ M → W8 x
/-- While the peers are drawn. -/
structure Es (w : World) (g : Nat) (a : Option Addr) (c : Nat) (L : List Int) (g2 g5 B5 N : Nat) (E : En) (d : Ad) (V : World) : Prop where
 nm : Nm V g a c L N
 but : But g w V
 b2 : Bx V g2 (enA zEn zAd) 50
 er : V.ownsRow w.heap.size 5 1 (.slice d.ra E.raw.length d.rc) E.raw.length (bcells E.raw)
 rl : ∀ x, d.ra = some x → x.block < B5 ∧ x.block ≠ g2 ∧ x.block ≠ g5
 bz : B5 ≤ V.heap.size
 b5 : Bx V g5 (enA E d) 50
 ep : V.ownsRow B5 3 1 (.slice d.pa E.prs.length d.pc) E.prs.length (icells E.prs)
/-- How the blocks lie. -/
structure Lz (w : World) (g g2 g5 B5 : Nat) : Prop where
 gw : g < w.heap.size
 w2 : w.heap.size ≤ g2
 w5 : w.heap.size ≤ g5
 n25 : g2 ≠ g5
 l2 : g2 < B5
 l5 : g5 < B5
 wb : w.heap.size ≤ B5
section
variable {w : World} {g : Nat} {a : Option Addr} {c : Nat} {L : List Int} {g2 g3 g5 B5 n N : Nat} {E : En} {d : Ad} {V V2 : World} {M : List Int} {y : Int} {v : Value}
theorem Es.call (h : Es w g a c L g2 g5 B5 N E d V) (z : Lz w g g2 g5 B5) (hn : Nm V2 g a c L (N + 1)) (hb : But g V V2) : Es w g a c L g2 g5 B5 (N + 1) E d V2 :=
 have lz := z.gw; have w2 := z.w2; have w5 := z.w5; have wb := z.wb
 ⟨hn, h.but.trans hb, h.b2.but hb (by omega), own_butq h.er hb fun x hx => by have := (h.er.lt x.block (by rw [hx]; rfl)).1; omega, h.rl, Nat.le_trans h.bz hb.1.size, h.b5.but hb (by omega), own_butq h.ep hb fun x hx => by have := (h.ep.lt x.block (by rw [hx]; rfl)).1; omega⟩
theorem Es.below (h : Es w g a c L g2 g5 B5 N E d V) (hb : Below V.heap.size V V2) : Es w g a c L g2 g5 B5 N E d V2 :=
 ⟨h.nm.below hb, h.but.trans (But.of_below hb (Nat.le_of_lt h.nm.lt)), h.b2.below h.b2.lt hb, own_below h.er hb, h.rl, Nat.le_trans h.bz hb.size, h.b5.below h.b5.lt hb, own_below h.ep hb⟩
/-- The peer in a block of its own; the row that has grown. -/
def Es2 (w : World) (g : Nat) (a : Option Addr) (c : Nat) (L : List Int) (g2 g5 B5 N : Nat) (E : En) (d : Ad) (y : Int) (x : Value) (V : World) : Prop := Es w g a c L g2 g5 B5 N E d V ∧ ∃ q, x = .slice (some ⟨q, 0, none⟩) 1 1 ∧ Bx V q #[.int .i64 y] 3
structure Es3 (w : World) (g : Nat) (a : Option Addr) (c : Nat) (L : List Int) (g2 g5 B5 N : Nat) (E : En) (d : Ad) (y : Int) (x : Value) (V : World) : Prop where
 nm : Nm V g a c L N
 but : But g w V
 b2 : Bx V g2 (enA zEn zAd) 50
 er : V.ownsRow w.heap.size 5 1 (.slice d.ra E.raw.length d.rc) E.raw.length (bcells E.raw)
 rl : ∀ x, d.ra = some x → x.block < B5 ∧ x.block ≠ g2 ∧ x.block ≠ g5
 bz : B5 ≤ V.heap.size
 b5 : Bx V g5 (enA E d) 50
 ep : ∃ a2 c2, x = .slice a2 (E.prs ++ [y]).length c2 ∧ V.ownsRow B5 3 1 (.slice a2 (E.prs ++ [y]).length c2) (E.prs ++ [y]).length (icells (E.prs ++ [y]))
theorem Es.two (h : Es w g a c L g2 g5 B5 N E d V) : Es2 w g a c L g2 g5 B5 N E d y (.slice (some ⟨V.heap.size, 0, none⟩) 1 1) (V.alloc (.cells #[.int .i64 y] 3)) :=
 ⟨h.below ((Below.refl _ V).alloc (Nat.le_refl _) _), V.heap.size, rfl, heap_alloc_last V _⟩
theorem Es2.three {x : Value} (h : Es2 w g a c L g2 g5 B5 N E d y x V) (z : Lz w g g2 g5 B5) (hl : E.prs.length ≤ 10000) : ∃ v V2, (Builtin.append_ #[23, 23] 23 #[.slice d.pa E.prs.length d.pc, x]).run Try.prog V = .ok v V2 ∧ Es3 w g a c L g2 g5 B5 N E d y v V2 := by
 obtain ⟨h, q, rfl, hX⟩ := h
 have lz := z.gw; have w2 := z.w2; have w5 := z.w5; have wb := z.wb; have l2 := z.l2; have l5 := z.l5
 obtain ⟨v, V2, hr, hO, hb, -⟩ := append_int (m := 1) h.ep (some ⟨q, 0, none⟩) 1 [y] (Cs.block (cs := [.int .i64 y]) hX) rfl h.bz (by omega) (by omega)
 obtain ⟨a2, c2, rfl, -, -⟩ := own_cs hO
 have e : (E.prs ++ [y]).length = E.prs.length + 1 := by simp
 refine ⟨_, V2, hr, h.nm.low hb (by omega), ⟨h.but.1.trans (hb.mono (by omega)), fun k hk hn => (hb.block k (by omega)).trans (h.but.2 k hk hn)⟩, h.b2.below l2 hb, own_same h.er fun x hx => hb.block _ (h.rl x hx).1, h.rl, Nat.le_trans h.bz hb.size, h.b5.below l5 hb, a2, c2, by rw [e], ?_⟩
 rw [e, icells_app]
 exact hO
theorem Es3.four {x : Value} (h : Es3 w g a c L g2 g5 B5 N E d y x V) (z : Lz w g g2 g5 B5) : ∃ V2, (Instr.storeAt 23 (.pointer (some ⟨g5, 40, none⟩)) x).run Try.prog V = .ok () V2 ∧ ∃ a2 c2, Es w g a c L g2 g5 B5 N { E with prs := E.prs ++ [y] } { d with pa := a2, pc := c2 } V2 := by
 obtain ⟨a2, c2, rfl, hO⟩ := h.ep
 have lz := z.gw; have w2 := z.w2; have w5 := z.w5; have wb := z.wb; have l2 := z.l2; have l5 := z.l5
 obtain ⟨V2, hst, hX, hbt⟩ := st_fld (i := 40) (ty := 23) (v := .slice a2 (E.prs ++ [y]).length c2) (enA { E with prs := E.prs ++ [y] } { d with pa := a2, pc := c2 }) h.b5 (by show 40 < 41; decide) (by kernel_rfl) rfl (by kernel_rfl)
 exact ⟨V2, hst, a2, c2, h.nm.but hbt (by omega), ⟨h.but.1.trans (hbt.1.mono (by omega)), fun k hk hn => (hbt.2 k (Nat.lt_of_lt_of_le hk h.but.1.size) (by omega)).trans (h.but.2 k hk hn)⟩, h.b2.but hbt z.n25, own_butq h.er hbt fun x hx => (h.rl x hx).2.2, h.rl, Nat.le_trans h.bz hbt.1.size, hX, own_butq hO hbt fun x hx => by have hx2 : a2 = some x := hx; have := (hO.lt x.block (by rw [hx2]; rfl)).1; omega⟩
end
/-- A chain of four steps in a region that draws its order; p: something that is done ahead of the third one; q: something between the first and the second. -/
structure KC4 (b1 b2 b3 b4 p q : Bool) (F0 F1 F2 F3 F4 : Prop) : Prop where
 o1 : b2 = true → b1 = true
 o2 : b3 = true → b2 = true
 o3 : b4 = true → b3 = true
 o4 : b3 = true → p = true
 o5 : q = true → b1 = true
 is : cond b4 F4 (cond b3 F3 (cond b2 F2 (cond b1 F1 F0)))
section
variable {b1 b2 b3 b4 p q : Bool} {F0 F1 F2 F3 F4 G0 G1 G2 G3 G4 : Prop}
theorem KC4.start (h : F0) : KC4 false false false false false false F0 F1 F2 F3 F4 := ⟨(fun e => nomatch e), (fun e => nomatch e), (fun e => nomatch e), (fun e => nomatch e), (fun e => nomatch e), h⟩
theorem KC4.w0 (h : KC4 false b2 b3 b4 p q F0 F1 F2 F3 F4) : b2 = false ∧ b3 = false ∧ b4 = false ∧ q = false := by
 obtain rfl := ffw h.o1 rfl
 obtain rfl := ffw h.o2 rfl
 obtain rfl := ffw h.o3 rfl
 obtain rfl := ffw h.o5 rfl
 exact ⟨rfl, rfl, rfl, rfl⟩
theorem KC4.w1 (h : KC4 b1 false b3 b4 p true F0 F1 F2 F3 F4) : b1 = true ∧ b3 = false ∧ b4 = false := by
 obtain rfl := ffw h.o2 rfl
 obtain rfl := ffw h.o3 rfl
 exact ⟨h.o5 rfl, rfl, rfl⟩
theorem KC4.w2 (h : KC4 b1 true false b4 p q F0 F1 F2 F3 F4) : b1 = true ∧ b4 = false := ⟨h.o1 rfl, ffw h.o3 rfl⟩
theorem KC4.w3 (h : KC4 b1 b2 true false p q F0 F1 F2 F3 F4) : b2 = true := h.o2 rfl
theorem KC4.s1 (h : KC4 false false false false p false F0 F1 F2 F3 F4) (k : G1) : KC4 true false false false p false G0 G1 G2 G3 G4 := ⟨fun _ => rfl, h.o2, h.o3, h.o4, fun _ => rfl, k⟩
theorem KC4.sq (h : KC4 true b2 b3 b4 p false F0 F1 F2 F3 F4) : KC4 true b2 b3 b4 p true F0 F1 F2 F3 F4 := ⟨h.o1, h.o2, h.o3, h.o4, fun _ => rfl, h.is⟩
theorem KC4.s2 (h : KC4 true false false false p q F0 F1 F2 F3 F4) (k : G2) : KC4 true true false false p q G0 G1 G2 G3 G4 := ⟨fun _ => rfl, fun _ => rfl, h.o3, h.o4, h.o5, k⟩
theorem KC4.s3 (h : KC4 b1 true false false true q F0 F1 F2 F3 F4) (k : G3) : KC4 b1 true true false true q G0 G1 G2 G3 G4 := ⟨h.o1, fun _ => rfl, (fun e => nomatch e), fun _ => rfl, h.o5, k⟩
theorem KC4.s4 (h : KC4 b1 b2 true false p q F0 F1 F2 F3 F4) (k : G4) : KC4 b1 b2 true true p q G0 G1 G2 G3 G4 := ⟨h.o1, h.o2, fun _ => rfl, h.o4, h.o5, k⟩
theorem KC4.p0 (h : KC4 b1 b2 b3 b4 false q F0 F1 F2 F3 F4) : b3 = false ∧ b4 = false := by
 obtain rfl := ffw h.o4 rfl
 obtain rfl := ffw h.o3 rfl
 exact ⟨rfl, rfl⟩
theorem KC4.pr {X : Prop} (h : KC4 b1 b2 false false p q F0 F1 F2 F3 F4) (k0 : F0 → X) (k1 : F1 → X) (k2 : F2 → X) : X := by
 have := h.is
 cases b2
 ·cases b1
  ·exact k0 this
  ·exact k1 this
 ·exact k2 this
theorem KC4.sp (h : KC4 b1 b2 b3 b4 false q F0 F1 F2 F3 F4) : KC4 b1 b2 b3 b4 true q F0 F1 F2 F3 F4 := ⟨h.o1, h.o2, h.o3, fun _ => rfl, h.o5, h.is⟩
end
def EnF (e : En) : Prop := e.snd ∈ nms ∧ (0 ≤ e.sq ∧ e.sq ≤ 3) ∧ (0 ≤ e.ht ∧ e.ht ≤ 8) ∧ (0 ≤ e.tm ∧ e.tm ≤ 29) ∧ (0 ≤ e.od ∧ e.od ≤ 8)
set_option maxRecDepth 100000 in
set_option maxHeartbeats 8000000 in
theorem mk_entry {w : World} {g c N : Nat} {a : Option Addr} {L : List Int} (h : Nm w g a c L N) (hl : L.length ≤ 100000) (hN : N ≤ 50000) : Calls Try.prog 22 #[.pointer (some ⟨g, 0, none⟩)] w fun e w' => ∃ (E : En) (d : Ad) (N' : Nat), e = .returned (.agg (enA E d)) ∧ EnW w' w.heap.size E d ∧ E.raw.length ≤ 8 ∧ EnF E ∧ E.prs.length ≤ 2 ∧ N + 1 ≤ N' ∧ N' ≤ N + 30 ∧ Nm w' g a c L N' ∧ But g w w' := by
 have HL := Lib.hid hl
 have HNN := Lib.hid hN
 have HGW := Lib.hid h.lt
 have HNM := Lib.hid h
 clear hl hN h
 go_enter Try.func22, Try.ntmps22
 go_upto_region 1 with fail
 change Code.wp _ _ _ _ (w.alloc (.cells (enA zEn zAd) 50))
 have hb_0 : Below w.heap.size w (w.alloc (.cells (enA zEn zAd) 50)) := (Below.refl _ w).alloc (Nat.le_refl _) _
 have hX2 : Bx (w.alloc (.cells (enA zEn zAd) 50)) w.heap.size (enA zEn zAd) 50 := heap_alloc_last w _
 have hs_0 : (w.alloc (.cells (enA zEn zAd) 50)).heap.size = w.heap.size + 1 := by simp
 generalize w.alloc (.cells (enA zEn zAd) 50) = W at *
 obtain ⟨g2, hg2⟩ : ∃ g, w.heap.size = g := ⟨_, rfl⟩
 rw [hg2] at hX2
 have HGE : Hid (g2 = w.heap.size + 0 ∧ W.heap.size = w.heap.size + 1) := Lib.hid ⟨by omega, by omega⟩
 have HB := Lib.hid hb_0
 simp only [hg2]
 clear hb_0 hs_0 hg2
 refine wl <| gz1 (.pointer (some ⟨g, 0, none⟩)) <|
  gze (fun v w' => ∃ q : Nat, v = .int .i64 q ∧ (q : Int) < 9 ∧ Nm w' g a c L (N + 1) ∧ But g W w') ((nx (HNM.out.below HB.out) HL.out (by have := HNN.out; omega) 9 (by first | decide | omega) (by first | decide | omega)).mono fun e w' z => by obtain ⟨⟨q, h1, h2, -⟩, h3, h4⟩ := z; exact ⟨_, h1, q, rfl, h2, h3, h4⟩) (fun vv V1 hq => ?_)
 obtain ⟨v1, rfl, hv1, hns1, hbt1⟩ := hq
 obtain ⟨V2, hmk, hr2, hb2⟩ := make_by V1 v1 (by omega)
 obtain ⟨g3, hg3⟩ : ∃ g, V1.heap.size = g := ⟨_, rfl⟩
 rw [hg3] at hmk hr2
 have hbw : But g w V2 := ((But.of_below HB.out (Nat.le_of_lt HGW.out)).trans hbt1).trans (But.of_below hb2 (Nat.le_of_lt hns1.lt))
 have hwv : W.heap.size ≤ V1.heap.size := hbt1.1.size
 have hws : w.heap.size ≤ g3 := by have := HGE.out; omega
 have HER : Hid (Er w g a c L g2 g3 v1 (N + 1 + 0) (List.replicate v1 0) V2) := Lib.hid ⟨hns1.below hb2, hbw, (hX2.but hbt1 (by have := HGE.out; have := HGW.out; omega)).below (Nat.lt_of_lt_of_le hX2.lt hbt1.1.size) hb2, own_base hr2 hws, by simp, fun x hx => by rw [List.eq_of_mem_replicate hx]; exact ⟨by decide, by decide⟩⟩
 have HG3 : Hid (w.heap.size ≤ g3 ∧ g2 < g3 ∧ g3 < V2.heap.size) := Lib.hid ⟨hws, by have := HGE.out; omega, by have := (hr2.lt g3 rfl).2; exact this⟩
 have HV1 : Hid (v1 ≤ 8) := Lib.hid (by omega)
 simp only [pu]
 refine gw_make (by kernel_rfl) (some 9) rfl 48 (.tmp 8) (.tmp 8) rfl (.int .i64 v1) (.int .i64 v1) (.slice (some ⟨g3, 0, none⟩) v1 v1) (by kernel_rfl) (by kernel_rfl) V2 hmk ?_
 simp only [pu]
 refine gz1 (.slice (some ⟨g3, 0, none⟩) v1 v1) <| wn ?_
 simp only [pu]
 clear hmk hr2 hb2 hns1 hbt1 hv1 hbw hX2 hwv hws hg3
 go_upto_region 2 with fail
 refine wl <| gz3 (.slice (some ⟨g3, 0, none⟩) v1 v1) (.int .i64 v1) (.int .i64 0) <| wn ?_
 simp only [pu]
 go_wp2_with fail
 go_loopg [12] v1 (fun gg s12 wx => ∃ (i : Nat) (M : List Int), s12 = .int .i64 i ∧ i ≤ v1 ∧ gg + i = v1 ∧ Hid (Er w g a c L g2 g3 v1 (N + 1 + i) M wx))
 case atStart => exact ⟨0, _, rfl, by omega, by omega, HER⟩
 case round =>
  obtain ⟨i, M, rfl, hin, hg, HR⟩ := hrel
  clear HER
  have HGK : Hid (gk + i = v1) := Lib.hid hg
  clear hg
  by_cases hlt : i < v1
  ·skip
   go_upto_region 3 with fail
   refine wl <| gzb (lss_n rfl (i) (v1) dT) <| wn ?_
   simp only [pu]
   go_upto_region 4 with fail
   refine wl <| gz2 (.int .i64 i) (.int .i64 i) <| wn ?_
   simp only [pu]
   go_upto_region 5 with fail
   refine wl <| gz3 (.slice (some ⟨g3, 0, none⟩) v1 v1) (.int .i64 i) (.pointer (some ⟨g, 0, none⟩)) <|
    gze (fun v w' => ∃ q : Nat, v = .int .i64 q ∧ (q : Int) < 3 ∧ Nm w' g a c L ((N + 1 + i) + 1) ∧ But g wr w') ((nx HR.out.nm HL.out (by have := HNN.out; have := HV1.out; omega) 3 (by first | decide | omega) (by first | decide | omega)).mono fun e w' z => by obtain ⟨⟨q, h1, h2, -⟩, h3, h4⟩ := z; exact ⟨_, h1, q, rfl, h2, h3, h4⟩) (fun vv V3 hq => ?_)
   obtain ⟨v2, rfl, hv2, hns2, hbt2⟩ := hq
   have hr3 := own_butq HR.out.row hbt2 fun x hx => by cases hx; show g3 ≠ g; have := HG3.out; have := HGW.out; omega
   obtain ⟨V4, hst4, hr4, hbt4⟩ := st_by hr3 hlt v2
   have HR4 : Hid (Er w g a c L g2 g3 v1 (N + 1 + (i + 1)) (M.set i v2) V4) := Lib.hid ⟨hns2.but hbt4 (by have := HG3.out; have := HGW.out; omega), ⟨(HR.out.but.trans hbt2).1.trans (hbt4.1.mono (by have := HG3.out; have := HGW.out; omega)), fun k hk hn => (hbt4.2 k (Nat.lt_of_lt_of_le hk (HR.out.but.trans hbt2).1.size) (by have := HG3.out; omega)).trans ((HR.out.but.trans hbt2).2 k hk hn)⟩, (HR.out.b2.but hbt2 (by have := HGE.out; have := HGW.out; omega)).but hbt4 (by have := HG3.out; omega), hr4, by rw [List.length_set]; exact HR.out.ml, fun x hx => (List.mem_or_eq_of_mem_set hx).elim (HR.out.w8 x) (fun e => by rw [e]; exact ⟨by omega, by omega⟩)⟩
   simp only [pu]
   refine gzv (.int .u8 v2) (conv_i8 rfl v2 (by omega) (by kernel_rfl) _) <| gzv (.pointer (some ⟨g3, 0 + i, none⟩)) (idx_by g3 0 v1 v1 i hlt _ _ _ rfl (by kernel_rfl) (by kernel_rfl)) <| gzs rfl (hst4) <| wn ?_
   simp only [pu]
   clear hst4 hr3 hr4 hbt4 hns2 hbt2 hv2 HR
   go_upto_region 6 with fail
   refine wl <| gzv (.int .i64 (i + 1 : Nat)) (add_one rfl i (by have := HV1.out; omega) (by kernel_rfl) _) <| gz1 (.int .i64 (i + 1 : Nat)) <| wn ?_
   simp only [pu]
   go_wp2_with fail
   go_roundg (v1 - (i + 1))
   case measure => have := HGK.out; omega
   case rel => exact ⟨i + 1, _, rfl, by omega, by omega, HR4⟩
  ·skip
   obtain rfl : i = v1 := by omega
   have hml := HR.out.ml
   obtain rfl := hml
   go_upto_region 3 with fail
   refine wl <| gzb (lss_n rfl (M.length) (M.length) dF) <| wn ?_
   simp only [pu]
   have hSl : Sl wr (some ⟨g3, 0, none⟩) M.length M := by
    obtain ⟨a2, c2, e1, h1, -, -⟩ := sl_own (n := M.length) HR.out.row
    simp only [Value.slice.injEq] at e1
    obtain ⟨rfl, -, rfl⟩ := e1
    exact h1
   have CS := ref_sha (some ⟨g3, 0, none⟩) M.length M wr hSl HR.out.w8 (by have := HV1.out; omega)
   have hk8 := key_fn (shaL M) (shaL_len M)
   rw [hk8] at CS
   obtain ⟨K, hK⟩ : ∃ K, (fun i => (shaL M).getD i 0) = K := ⟨_, rfl⟩
   rw [hK] at CS
   clear hk8 hK hSl
   go_upto_region 7 with fail
   refine wl <| gz1 (.slice (some ⟨g3, 0, none⟩) M.length M.length) <| gzc (.agg (kcA K)) (fun w' => Below wr.heap.size wr w') (CS) (fun V1 hb1 => ?_)
   have hnsA := HR.out.nm.below hb1
   simp only [pu]
   refine gz2 (.slice (some ⟨g3, 0, none⟩) M.length M.length) (.pointer (some ⟨g, 0, none⟩)) <|
    gze (fun v w' => ∃ s, v = .string s ∧ s ∈ nms ∧ Nm w' g a c L (N + 1 + M.length + 1) ∧ But g V1 w') ((mk_name hnsA HL.out (by have := HNN.out; have := HV1.out; omega)).mono fun e w' z => by obtain ⟨s, h1, hm, h2, h3⟩ := z; exact ⟨_, h1, s, rfl, hm, h2, h3⟩) (fun vv V2 hq => ?_)
   obtain ⟨nm, rfl, hnm, hns2, hbt2⟩ := hq
   have HNM : Hid (nm ∈ nms) := Lib.hid hnm
   clear hnm
   simp only [pu]
   refine gz1 (.pointer (some ⟨g, 0, none⟩)) <|
    gze (fun v w' => ∃ q : Nat, v = .int .i64 q ∧ (q : Int) < 4 ∧ Nm w' g a c L ((N + 1 + M.length + 1) + 1) ∧ But g V2 w') ((nx hns2 HL.out (by have := HNN.out; have := HV1.out; omega) 4 (by first | decide | omega) (by first | decide | omega)).mono fun e w' z => by obtain ⟨⟨q, h1, h2, -⟩, h3, h4⟩ := z; exact ⟨_, h1, q, rfl, h2, h3, h4⟩) (fun vv V3 hq => ?_)
   obtain ⟨v3, rfl, hv3, hns3, hbt3⟩ := hq
   simp only [pu]
   refine gzv (.int .u64 v3) (conv_iu rfl v3 (by omega) (by omega) (by kernel_rfl) _) <| gz1 (.pointer (some ⟨g, 0, none⟩)) <|
    gze (fun v w' => ∃ q : Nat, v = .int .i64 q ∧ (q : Int) < 50 ∧ Nm w' g a c L ((N + 1 + M.length + 1 + 1) + 1) ∧ But g V3 w') ((nx hns3 HL.out (by have := HNN.out; have := HV1.out; omega) 50 (by first | decide | omega) (by first | decide | omega)).mono fun e w' z => by obtain ⟨⟨q, h1, h2, -⟩, h3, h4⟩ := z; exact ⟨_, h1, q, rfl, h2, h3, h4⟩) (fun vv V4 hq => ?_)
   obtain ⟨v4, rfl, hv4, hns4, hbt4⟩ := hq
   simp only [pu]
   refine gzv (.int .u64 v4) (conv_iu rfl v4 (by omega) (by omega) (by kernel_rfl) _) <| gz1 (.pointer (some ⟨g, 0, none⟩)) <|
    gze (fun v w' => ∃ q : Nat, v = .int .i64 q ∧ (q : Int) < 5 ∧ Nm w' g a c L ((N + 1 + M.length + 1 + 1 + 1) + 1) ∧ But g V4 w') ((nx hns4 HL.out (by have := HNN.out; have := HV1.out; omega) 5 (by first | decide | omega) (by first | decide | omega)).mono fun e w' z => by obtain ⟨⟨q, h1, h2, -⟩, h3, h4⟩ := z; exact ⟨_, h1, q, rfl, h2, h3, h4⟩) (fun vv V5 hq => ?_)
   obtain ⟨v5, rfl, hv5, hns5, hbt5⟩ := hq
   simp only [pu]
   refine gzv (.int .u64 v5) (conv_iu rfl v5 (by omega) (by omega) (by kernel_rfl) _) <| gz1 (.pointer (some ⟨g, 0, none⟩)) <|
    gze (fun v w' => ∃ q : Nat, v = .int .i64 q ∧ (q : Int) < 9 ∧ Nm w' g a c L ((N + 1 + M.length + 1 + 1 + 1 + 1) + 1) ∧ But g V5 w') ((nx hns5 HL.out (by have := HNN.out; have := HV1.out; omega) 9 (by first | decide | omega) (by first | decide | omega)).mono fun e w' z => by obtain ⟨⟨q, h1, h2, -⟩, h3, h4⟩ := z; exact ⟨_, h1, q, rfl, h2, h3, h4⟩) (fun vv V6 hq => ?_)
   obtain ⟨v6, rfl, hv6, hns6, hbt6⟩ := hq
   simp only [pu]
   refine gz1 (.pointer (some ⟨g, 0, none⟩)) <|
    gze (fun v w' => ∃ q : Nat, v = .int .i64 q ∧ (q : Int) < 30 ∧ Nm w' g a c L ((N + 1 + M.length + 1 + 1 + 1 + 1 + 1) + 1) ∧ But g V6 w') ((nx hns6 HL.out (by have := HNN.out; have := HV1.out; omega) 30 (by first | decide | omega) (by first | decide | omega)).mono fun e w' z => by obtain ⟨⟨q, h1, h2, -⟩, h3, h4⟩ := z; exact ⟨_, h1, q, rfl, h2, h3, h4⟩) (fun vv V7 hq => ?_)
   obtain ⟨v7, rfl, hv7, hns7, hbt7⟩ := hq
   simp only [pu]
   refine gz1 (.pointer (some ⟨g, 0, none⟩)) <|
    gze (fun v w' => ∃ q : Nat, v = .int .i64 q ∧ (q : Int) < 9 ∧ Nm w' g a c L ((N + 1 + M.length + 1 + 1 + 1 + 1 + 1 + 1) + 1) ∧ But g V7 w') ((nx hns7 HL.out (by have := HNN.out; have := HV1.out; omega) 9 (by first | decide | omega) (by first | decide | omega)).mono fun e w' z => by obtain ⟨⟨q, h1, h2, -⟩, h3, h4⟩ := z; exact ⟨_, h1, q, rfl, h2, h3, h4⟩) (fun vv V8 hq => ?_)
   obtain ⟨v8, rfl, hv8, hns8, hbt8⟩ := hq
   have hbtA := ((((((But.of_below hb1 (Nat.le_of_lt HR.out.nm.lt)).trans hbt2).trans hbt3).trans hbt4).trans hbt5).trans hbt6).trans (hbt7.trans hbt8)
   obtain ⟨V9, hst9, hb9, hX5⟩ := new_bx (c := enA zEn zAd) (c' := enA ⟨K, M, nm, v3, v4, v5, v6, v7, v8, []⟩ ⟨some ⟨g3, 0, none⟩, M.length, none, 0⟩) (ty := 50) V8 rfl (enA_one _ _) (by kernel_rfl)
   obtain ⟨g5, hg5⟩ : ∃ g, V8.heap.size = g := ⟨_, rfl⟩
   obtain ⟨B5, hB5⟩ : ∃ B, V9.heap.size = B := ⟨_, rfl⟩
   rw [hg5] at hX5
   have hwr : wr.heap.size ≤ g5 := by have := hbtA.1.size; omega
   have hg5B : g5 < B5 := by have := hX5.lt; omega
   have hrow := own_butq HR.out.row hbtA fun x hx => by cases hx; show g3 ≠ g; have := HG3.out; have := HGW.out; omega
   have hg3w : g3 < wr.heap.size := (HR.out.row.lt g3 rfl).2
   have hb2w := HR.out.b2.lt
   have hG3 := HG3.out
   have hGE := HGE.out
   have hGW := HGW.out
   have hWW := HR.out.but.1.size
   have HLZ : Hid (Lz w g g2 g5 B5) := Lib.hid ⟨by omega, by omega, by omega, by omega, by omega, by omega, by omega⟩
   have HES : Hid (Es w g a c L g2 g5 B5 (N + 1 + M.length + 1 + 1 + 1 + 1 + 1 + 1 + 1) ⟨K, M, nm, v3, v4, v5, v6, v7, v8, []⟩ ⟨some ⟨g3, 0, none⟩, M.length, none, 0⟩ V9) := Lib.hid ⟨hns8.below hb9, (HR.out.but.trans hbtA).trans (But.of_below hb9 (Nat.le_of_lt hns8.lt)), (HR.out.b2.but hbtA (by have := HGE.out; have := HGW.out; omega)).below (Nat.lt_of_lt_of_le hb2w hbtA.1.size) hb9, own_below hrow hb9, fun x hx => by cases hx; exact ⟨show g3 < B5 by omega, show g3 ≠ g2 by omega, show g3 ≠ g5 by omega⟩, Nat.le_of_eq hB5.symm, hX5, World.ownsRow_nil _ _ _ _⟩
   have HW8 := Lib.hid HR.out.w8
   simp only [pu]
   refine gz1 (.agg (enA ⟨K, M, nm, v3, v4, v5, v6, v7, v8, []⟩ ⟨some ⟨g3, 0, none⟩, M.length, none, 0⟩)) ?_
   simp only [pu]
   refine run_to rfl (some 5) rfl (.pointer (some ⟨V8.heap.size, 0, none⟩)) (V8.alloc (.cells (enA zEn zAd) 50)) (by kernel_rfl) ?_
   simp only [pu]
   refine gzs rfl (hst9) <| wn ?_
   rw [hg5]
   have HVV : Hid (v3 < 4 ∧ v6 < 9 ∧ v7 < 30 ∧ v8 < 9) := Lib.hid ⟨by omega, by omega, by omega, by omega⟩
   clear hG3 hGE hGW hWW hst9 hb9 hX5 hg5 hB5 hwr hg5B hrow hg3w hb2w hbtA hb1 hnsA CS HR hns2 hns3 hns4 hns5 hns6 hns7 hns8 hbt2 hbt3 hbt4 hbt5 hbt6 hbt7 hbt8 hv3 hv4 hv5 hv6 hv7 hv8
   obtain ⟨E, hE⟩ : ∃ E : En, ⟨K, M, nm, v3, v4, v5, v6, v7, v8, []⟩ = E := ⟨_, rfl⟩
   obtain ⟨d, hd⟩ : ∃ d : Ad, ⟨some ⟨g3, 0, none⟩, M.length, none, 0⟩ = d := ⟨_, rfl⟩
   have HEL : Hid (E.raw.length ≤ 8 ∧ E.prs = [] ∧ EnF E) := Lib.hid ⟨by rw [← hE]; exact HV1.out, by rw [← hE], by rw [← hE]; have := HVV.out; exact ⟨HNM.out, show (0 : Int) ≤ (v3 : Int) ∧ (v3 : Int) ≤ 3 by omega, show (0 : Int) ≤ (v6 : Int) ∧ (v6 : Int) ≤ 8 by omega, show (0 : Int) ≤ (v7 : Int) ∧ (v7 : Int) ≤ 29 by omega, show (0 : Int) ≤ (v8 : Int) ∧ (v8 : Int) ≤ 8 by omega⟩⟩
   obtain ⟨N8, hN8⟩ : ∃ n, (N + 1 + M.length + 1 + 1 + 1 + 1 + 1 + 1 + 1) = n := ⟨_, rfl⟩
   have HN8 : Hid (N + 8 ≤ N8 ∧ N8 ≤ N + 17) := Lib.hid (by have := HV1.out; omega)
   rw [hE, hd, hN8] at HES
   simp only [hE, hd]
   clear hE hd hN8
   go_upto_region 8 with fail
   refine wl <| gz1 (.pointer (some ⟨g, 0, none⟩)) <|
    gze (fun v w' => ∃ q : Nat, v = .int .i64 q ∧ (q : Int) < 3 ∧ Nm w' g a c L (N8 + 1) ∧ But g V9 w') ((nx HES.out.nm HL.out (by have := HNN.out; have := HN8.out; omega) 3 (by first | decide | omega) (by first | decide | omega)).mono fun e w' z => by obtain ⟨⟨q, h1, h2, -⟩, h3, h4⟩ := z; exact ⟨_, h1, q, rfl, h2, h3, h4⟩) (fun vv V10 hq => ?_)
   obtain ⟨v9, rfl, hv9, hns9, hbt9⟩ := hq
   have HES1 := Lib.hid (HES.out.call HLZ.out hns9 hbt9)
   simp only [pu]
   refine gz1 (.int .i64 v9) <| wn ?_
   simp only [pu]
   clear hns9 hbt9 HES
   have HV9 : Hid (v9 ≤ 2) := Lib.hid (by omega)
   go_wp2_with fail
   go_loopg [6] v9 (fun gg s6 wx => ∃ (z : Nat) (Q : List Int) (d2 : Ad), s6 = .int .i64 z ∧ z + Q.length = v9 ∧ gg = z ∧ Hid (Es w g a c L g2 g5 B5 (N8 + 1 + Q.length) { E with prs := Q } d2 wx))
   case atStart => exact ⟨v9, [], d, rfl, by simp, rfl, Lib.hid (by have := HES1.out; have e := HEL.out.2.1; cases E; simp only at e; subst e; exact this)⟩
   case round =>
    obtain ⟨z, Q, d2, rfl, hzq, hgz, HR⟩ := hrel
    have HGZ := Lib.hid hgz
    clear HES1 hgz
    have HZQ : Hid (z + Q.length = v9) := Lib.hid hzq
    clear hzq
    by_cases hz0 : 0 < z
    ·skip
     obtain ⟨E2, hE2⟩ : ∃ E2 : En, { E with prs := Q } = E2 := ⟨_, rfl⟩
     have HQE : Hid (E2.prs = Q ∧ ∀ y, { E2 with prs := E2.prs ++ [y] } = { E with prs := Q ++ [y] }) := Lib.hid ⟨by rw [← hE2], fun y => by rw [← hE2]⟩
     rw [hE2] at HR
     obtain ⟨N9, hN9⟩ : ∃ n, N8 + 1 + Q.length = n := ⟨_, rfl⟩
     have HN9 : Hid (N8 + 1 + Q.length = N9) := Lib.hid hN9
     rw [hN9] at HR
     have hp := pl_range (L.getD N9 0) 4 (by decide)
     obtain ⟨y4, hy4⟩ : ∃ y : Int, pl (L.getD N9 0) 4 = y := ⟨_, rfl⟩
     rw [hy4] at hp
     have HY4 := Lib.hid hy4
     have HYB : Hid (0 ≤ y4 ∧ y4 < 4) := Lib.hid hp
     have hln : E2.prs.length ≤ 2 := by rw [HQE.out.1]; have := HZQ.out; have := HV9.out; omega
     have HLE : Hid (E2.prs.length ≤ 2) := Lib.hid hln
     have hD : Es w g a c L g2 g5 B5 N9 E2 d2 { wr with drawn := wr.drawn + 1 } := HR.out.below (Below.refl _ wr).drew
     have h0 := KC4.start (F1 := Es w g a c L g2 g5 B5 (N9 + 1) E2 d2 { wr with drawn := wr.drawn + 1 }) (F2 := Es2 w g a c L g2 g5 B5 (N9 + 1) E2 d2 (1 + y4) u54 { wr with drawn := wr.drawn + 1 }) (F3 := Es3 w g a c L g2 g5 B5 (N9 + 1) E2 d2 (1 + y4) u55 { wr with drawn := wr.drawn + 1 }) (F4 := ∃ a2 c2, Es w g a c L g2 g5 B5 (N9 + 1) { E2 with prs := E2.prs ++ [1 + y4] } { d2 with pa := a2, pc := c2 } { wr with drawn := wr.drawn + 1 }) hD
     clear hE2 hN9 hp hy4 hln hD
     go_upto_region 9 with fail
     refine wl <| gz1 (.int .i64 z) <| gzb (gtr_n rfl (z) (0) dT) <| wn ?_
     simp only [pu]
     go_upto_region 11 with fail
     refine wp_region_inv (fun listed act9 V => ∃ b0 b1 b2 b3 b4 b5 b6 b7 b8 : Bool, ∃ x54 x55 : Value, listed = #[b0, b1, b2, b3, b4, b5, b6, b7, b8] ∧ act9 = { tmps := #[.pointer (some ⟨g, 0, none⟩), undef, .pointer (some ⟨g2, 0, none⟩), .slice (some ⟨g3, 0, none⟩) M.length M.length, u4, .pointer (some ⟨g5, 0, none⟩), .int .i64 z, .pointer (some ⟨g, 0, none⟩), .int .i64 M.length, .slice (some ⟨g3, 0, none⟩) M.length M.length, .slice (some ⟨g3, 0, none⟩) M.length M.length, .int .i64 M.length, .int .i64 M.length, .bool false, u14, u15, u16, u17, u18, u19, u20, u21, .slice (some ⟨g3, 0, none⟩) M.length M.length, .agg (kcA K), .slice (some ⟨g3, 0, none⟩) M.length M.length, .pointer (some ⟨g, 0, none⟩), .string nm, .pointer (some ⟨g, 0, none⟩), .int .i64 v3, .int .u64 v3, .pointer (some ⟨g, 0, none⟩), .int .i64 v4, .int .u64 v4, .pointer (some ⟨g, 0, none⟩), .int .i64 v5, .int .u64 v5, .pointer (some ⟨g, 0, none⟩), .int .i64 v6, .pointer (some ⟨g, 0, none⟩), .int .i64 v7, .pointer (some ⟨g, 0, none⟩), .int .i64 v8, .agg (enA E d), .pointer (some ⟨g, 0, none⟩), .int .i64 v9, .int .i64 z, .bool true, u47, u48, (cond b0 (.pointer (some ⟨g5, 40, none⟩)) (u49)), (cond b1 (.slice d2.pa E2.prs.length d2.pc) (u50)), (cond b2 (.pointer (some ⟨g, 0, none⟩)) (u51)), (cond b3 (.int .i64 y4) (u52)), (cond b4 (.int .i64 (1 + y4)) (u53)), x54, x55, (cond b7 (.pointer (some ⟨g5, 40, none⟩)) (u56)), undef], defers := [] } ∧ KC4 b3 b5 b6 b8 b1 b4 (Es w g a c L g2 g5 B5 N9 E2 d2 V) (Es w g a c L g2 g5 B5 (N9 + 1) E2 d2 V) (Es2 w g a c L g2 g5 B5 (N9 + 1) E2 d2 (1 + y4) x54 V) (Es3 w g a c L g2 g5 B5 (N9 + 1) E2 d2 (1 + y4) x55 V) (∃ a2 c2, Es w g a c L g2 g5 B5 (N9 + 1) { E2 with prs := E2.prs ++ [1 + y4] } { d2 with pa := a2, pc := c2 } V)) (by kernel_rfl) (by kernel_rfl) ?_ ?_ ?_
     ·exact ⟨false, false, false, false, false, false, false, false, false, u54, u55, rfl, rfl, h0⟩
     ·intro i9 listed act9 V hi9 hr hJ
      obtain ⟨b0, b1, b2, b3, b4, b5, b6, b7, b8, x54, x55, rfl, rfl, hF⟩ := hJ
      have hi2 : i9 < 9 := hi9
      have hi3 : i9 = 0 ∨ i9 = 1 ∨ i9 = 2 ∨ i9 = 3 ∨ i9 = 4 ∨ i9 = 5 ∨ i9 = 6 ∨ i9 = 7 ∨ i9 = 8 := by omega
      rcases hi3 with rfl | rfl | rfl | rfl | rfl | rfl | rfl | rfl | rfl
      ·obtain rfl : b0 = false := ready_self hr
       refine st_val rfl (by kernel_rfl) (some 49) rfl (.pointer (some ⟨g5, 40, none⟩)) V (by kernel_rfl) ?_
       exact ⟨true, b1, b2, b3, b4, b5, b6, b7, b8, x54, x55, rfl, rfl, hF⟩
      ·obtain rfl : b1 = false := ready_self hr
       obtain rfl : b0 = true := ready_dep hr 0 (by kernel_rfl)
       obtain ⟨rfl, rfl⟩ := hF.p0
       have hb5 := hF.pr (fun h => h.b5) (fun h => h.b5) (fun h => h.1.b5)
       refine st_load rfl (by kernel_rfl) (some 50) rfl 23 (.tmp 49) rfl ⟨g5, 40, none⟩ (.slice d2.pa E2.prs.length d2.pc) (by kernel_rfl) (rg_cell (bx_range hb5) (j := 40) rfl (by kernel_rfl)) ?_
       exact ⟨true, true, b2, b3, b4, b5, false, b7, false, _, _, rfl, rfl, hF.sp⟩
      ·obtain rfl : b2 = false := ready_self hr
       refine st_val rfl (by kernel_rfl) (some 51) rfl (.pointer (some ⟨g, 0, none⟩)) V (by kernel_rfl) ?_
       exact ⟨b0, b1, true, b3, b4, b5, b6, b7, b8, x54, x55, rfl, rfl, hF⟩
      ·obtain rfl : b3 = false := ready_self hr
       obtain rfl : b2 = true := ready_dep hr 2 (by kernel_rfl)
       obtain ⟨rfl, rfl, rfl, rfl⟩ := hF.w0
       refine st_call rfl (by kernel_rfl) (some 52) rfl 15 #[.pointer (some ⟨g, 0, none⟩), .int .i64 4] (by kernel_rfl) ((nx hF.is.nm HL.out (by have := HNN.out; have := HN8.out; have := HN9.out; have := HZQ.out; have := HV9.out; omega) 4 (by decide) (by decide)).mono ?_)
       rintro e V2 ⟨⟨v, rfl, -, hv⟩, hns, hbt⟩
       rw [HY4.out] at hv
       rw [hv]
       exact ⟨_, rfl, b0, b1, true, true, false, false, false, b7, false, _, _, rfl, rfl, hF.s1 (hF.is.call HLZ.out hns hbt)⟩
      ·obtain rfl : b4 = false := ready_self hr
       obtain rfl : b3 = true := ready_dep hr 3 (by kernel_rfl)
       refine st_val rfl (by kernel_rfl) (some 53) rfl (.int .i64 (1 + y4)) V (add_i rfl 1 y4 (by have := HYB.out; omega) (by kernel_rfl) (by kernel_rfl) V) ?_
       exact ⟨b0, b1, b2, true, true, b5, b6, b7, b8, _, _, rfl, rfl, hF.sq⟩
      ·obtain rfl : b5 = false := ready_self hr
       obtain rfl : b4 = true := ready_dep hr 4 (by kernel_rfl)
       obtain ⟨rfl, rfl, rfl⟩ := hF.w1
       refine st_build rfl (by kernel_rfl) (some 54) rfl 23 1 #[(0, .tmp 53)] rfl #[(0, .int .i64 (1 + y4))] (by kernel_rfl) (.slice (some ⟨V.heap.size, 0, none⟩) 1 1) _ (one_int (1 + y4) V) ?_
       exact ⟨b0, b1, b2, true, true, true, false, b7, false, _, _, rfl, rfl, hF.s2 (Es.two hF.is)⟩
      ·obtain rfl : b6 = false := ready_self hr
       obtain rfl : b1 = true := ready_dep hr 1 (by kernel_rfl)
       obtain rfl : b5 = true := ready_dep hr 5 (by kernel_rfl)
       obtain ⟨rfl, rfl⟩ := hF.w2
       obtain ⟨v9, V9, hap9, hE9⟩ := Es2.three hF.is HLZ.out (by have := HLE.out; omega)
       refine st_append rfl (by kernel_rfl) (some 55) rfl 23 rfl (.tmp 50) (.tmp 54) 23 rfl (.slice d2.pa E2.prs.length d2.pc) x54 v9 V9 (by kernel_rfl) (by kernel_rfl) hap9 ?_
       exact ⟨b0, true, b2, true, b4, true, true, b7, false, _, _, rfl, rfl, hF.s3 hE9⟩
      ·obtain rfl : b7 = false := ready_self hr
       refine st_val rfl (by kernel_rfl) (some 56) rfl (.pointer (some ⟨g5, 40, none⟩)) V (by kernel_rfl) ?_
       exact ⟨b0, b1, b2, b3, b4, b5, b6, true, b8, x54, x55, rfl, rfl, hF⟩
      ·obtain rfl : b8 = false := ready_self hr
       obtain rfl : b6 = true := ready_dep hr 6 (by kernel_rfl)
       obtain rfl : b7 = true := ready_dep hr 7 (by kernel_rfl)
       obtain rfl := hF.w3
       obtain ⟨V9, hst9, hE9⟩ := Es3.four hF.is HLZ.out
       refine st_storeA rfl (by kernel_rfl) rfl 23 (.tmp 56) (.tmp 55) rfl (.pointer (some ⟨g5, 40, none⟩)) x55 (by kernel_rfl) (by kernel_rfl) V9 hst9 ?_
       exact ⟨b0, b1, b2, b3, b4, true, true, true, true, _, _, rfl, rfl, hF.s4 hE9⟩
     ·intro act9 V hJ
      obtain ⟨b0, b1, b2, b3, b4, b5, b6, b7, b8, x54, x55, he, rfl, hF⟩ := hJ
      have he : (#[true, true, true, true, true, true, true, true, true] : Array Bool) = #[b0, b1, b2, b3, b4, b5, b6, b7, b8] := he
      simp only [Array.mk.injEq, List.cons.injEq, and_true] at he
      obtain ⟨rfl, rfl, rfl, rfl, rfl, rfl, rfl, rfl, rfl⟩ := he
      simp only [cond_true]
      obtain ⟨a2, c2, hE9⟩ := hF.is
      have HR9 : Hid (Es w g a c L g2 g5 B5 (N8 + 1 + (Q ++ [1 + y4]).length) { E with prs := Q ++ [1 + y4] } { d2 with pa := a2, pc := c2 } V) := Lib.hid (by
       have h1 := hE9
       rw [HQE.out.2, ← HN9.out] at h1
       rw [List.length_append, List.length_singleton, ← Nat.add_assoc]
       exact h1)
      have HLQ : Hid ((Q ++ [1 + y4]).length = Q.length + 1) := Lib.hid (by rw [List.length_append, List.length_singleton])
      clear hF hE9
      go_upto_region 10 with fail
      refine wl <| gz1 (.int .i64 z) <| gzw (.int .i64 ((z - 1 : Nat) : Int)) (sub_nat rfl z hz0 (by have := HZQ.out; have := HV9.out; omega)) <| gz1 (.int .i64 ((z - 1 : Nat) : Int)) <| wn ?_
      simp only [pu]
      go_wp2_with fail
      go_roundg (z - 1)
      case measure => have := HGZ.out; omega
      case rel => exact ⟨z - 1, _, _, rfl, by have := HZQ.out; have := HLQ.out; omega, rfl, HR9⟩
    ·skip
     obtain rfl : z = 0 := by omega
     obtain ⟨V3, hst3, hY3, hbt3⟩ := st_all (cs' := enA { E with prs := Q } d2) (ty := 50) HR.out.b2 rfl (enA_one _ _) (by kernel_rfl)
     have hb5 := Lib.hid HR.out.b5
     have HEW : Hid (EnW V3 w.heap.size { E with prs := Q } d2) := Lib.hid ⟨own_butq HR.out.er hbt3 fun x hx => (HR.out.rl x hx).2.1, own_base (own_butq HR.out.ep hbt3 fun x hx => by have := (HR.out.ep.lt x.block (by rw [hx]; rfl)).1; have := HLZ.out.l2; omega) HLZ.out.wb⟩
     have HNE : Hid (Nm V3 g a c L (N8 + 1 + Q.length)) := Lib.hid (HR.out.nm.but hbt3 (by have := HLZ.out.gw; have := HLZ.out.w2; omega))
     have HBE : Hid (But g w V3) := Lib.hid ⟨HR.out.but.1.trans (hbt3.1.mono (by have := HLZ.out.gw; have := HLZ.out.w2; omega)), fun k hk hn => (hbt3.2 k (Nat.lt_of_lt_of_le hk HR.out.but.1.size) (by have := HLZ.out.w2; omega)).trans (HR.out.but.2 k hk hn)⟩
     clear hbt3 HR
     go_upto_region 9 with fail
     refine wl <| gz1 (.int .i64 (0 : Nat)) <| gzb (gtr_n rfl ((0 : Nat)) (0) dF) <| wn ?_
     simp only [pu]
     go_upto_region 12 with fail
     refine wl <| gzl rfl ⟨g5, 0, none⟩ (.agg (enA { E with prs := Q } d2)) (load_en (bx_range hb5.out)) <| gzs rfl (hst3) <| wn ?_
     simp only [pu]
     clear hst3 hb5
     go_wp2_with fail
     exact bodyPost_ret (results_1c rfl (by kernel_rfl) (load_en (bx_range hY3))) rfl ⟨_, _, _, rfl, HEW.out, HEL.out.1, HEL.out.2.2, by have := HZQ.out; have := HV9.out; show Q.length ≤ 2; omega, by have := HN8.out; omega, by have := HN8.out; have := HZQ.out; have := HV9.out; omega, HNE.out, HBE.out⟩
end Go.Proofs.Ytgkckblcekbafaa
