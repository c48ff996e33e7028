/-
 play: contract.
-/
import Derived.Test.YtmpajgaanghpoaaKN
import Derived.Deep.DeepCutAuto
namespace Go.Proofs.Ytmpajgaanghpoaa
attribute [local irreducible] wpList wpQuiet
open Go.RowKit
set_option maxRecDepth 100000
set_option linter.unusedSimpArgs false
set_option linter.unusedVariables false

/-- While the two stores are played with. -/
structure PS (w : World) (gn : Nat) (a : Option Addr) (c : Nat) (L : List Int) (B g0 : Nat) (S : Nat → Prop) (m mr : Sm) (Lr : List (Pn × Ad)) (ap : Option Addr) (cp : Nat) (af : Option Addr) (cf : Nat) (g3 g8 : Nat) (X8 : Array Value) (N : Nat) (V : World) : Prop where
 bel : Below w.heap.size w V
 wn : w.heap.size ≤ gn
 nB : gn < B
 bz : B ≤ V.heap.size
 nm : Nm V gn a c L N
 rep : RepS V g0 S m
 so : ∀ k, S k → B ≤ k
 rm : Rm V mr Lr ap cp af cf
 ro : ∀ k, RmB mr Lr ap af k → B ≤ k ∧ ¬ S k ∧ k ≠ g8
 b3 : Bx V g3 (rsA 0 none 0 0 none 0 0) 28
 l3 : w.heap.size ≤ g3 ∧ g3 < B ∧ g3 ≠ gn
 b8 : Bx V g8 X8 28
 n8 : ¬ S g8
 B8 : B ≤ g8
section
variable {w : World} {gn : Nat} {a : Option Addr} {c : Nat} {L : List Int} {B g0 : Nat} {S : Nat → Prop} {m mr m2 mr2 : Sm} {Lr Lr2 : List (Pn × Ad)} {ap ap2 : Option Addr} {cp cp2 : Nat} {af af2 : Option Addr} {cf cf2 : Nat} {g3 g8 : Nat} {X8 : Array Value} {N N2 : Nat} {V V2 : World}
theorem PS.below (h : PS w gn a c L B g0 S m mr Lr ap cp af cf g3 g8 X8 N V) (hb : Below V.heap.size V V2) : PS w gn a c L B g0 S m mr Lr ap cp af cf g3 g8 X8 N V2 :=
 {h with bel := h.bel.trans (hb.mono h.bel.size), bz := Nat.le_trans h.bz hb.size, nm := h.nm.below hb, rep := h.rep.below hb, rm := h.rm.below hb, b3 := h.b3.below h.b3.lt hb, b8 := h.b8.below h.b8.lt hb }
theorem PS.num (h : PS w gn a c L B g0 S m mr Lr ap cp af cf g3 g8 X8 N V) (hn : Nm V2 gn a c L N2) (hb : But gn V V2) : PS w gn a c L B g0 S m mr Lr ap cp af cf g3 g8 X8 N2 V2 :=
 have h1 := h.nB
 have h2 := h.B8
 {h with bel := h.bel.trans (hb.1.mono h.wn), bz := Nat.le_trans h.bz hb.1.size, nm := hn, rep := h.rep.same fun k hk => hb.2 k (h.rep.inn k hk) (by have := h.so k hk; omega), rm := h.rm.same fun k hk => hb.2 k (h.rm.lt k hk) (by have := (h.ro k hk).1; omega), b3 := h.b3.but hb h.l3.2.2, b8 := h.b8.but hb (by omega) }
theorem PS.ref (h : PS w gn a c L B g0 S m mr Lr ap cp af cf g3 g8 X8 N V) (hr : Rm V2 mr2 Lr2 ap2 cp2 af2 cf2) {Q : Nat → Prop} (hs : ∀ k, RmB mr2 Lr2 ap2 af2 k → RmB mr Lr ap af k ∨ Q k ∨ V.heap.size ≤ k) (hQ : ∀ k, Q k → B ≤ k ∧ ¬ S k ∧ k ≠ g8) (hb : Below V.heap.size V V2) : PS w gn a c L B g0 S m mr2 Lr2 ap2 cp2 af2 cf2 g3 g8 X8 N V2 :=
 have h1 := h.b8.lt
 have h2 := h.bz
 {h with bel := h.bel.trans (hb.mono h.bel.size), bz := Nat.le_trans h.bz hb.size, nm := h.nm.below hb, rep := h.rep.below hb, rm := hr, b3 := h.b3.below h.b3.lt hb, b8 := h.b8.below h.b8.lt hb, ro := fun k hk => (hs k hk).elim (h.ro k) fun h3 => h3.elim (hQ k) fun h4 => ⟨by omega, fun hS => by have := h.rep.inn k hS; omega, by omega⟩ }
theorem PS.prog (h : PS w gn a c L B g0 S m mr Lr ap cp af cf g3 g8 X8 N V) (hu : UpdS g0 B S m2 V V2) : ∃ S2, PS w gn a c L B g0 S2 m2 mr Lr ap cp af cf g3 g8 X8 N V2 ∧ (∀ k, k < V.heap.size → ¬ S k → ¬ S2 k) ∧ ButS B S V V2 := by
 obtain ⟨S2, q1, q2, q3⟩ := hu
 have key : ∀ k, k < V.heap.size → ¬ S k → ¬ S2 k := fun k hk hn h4 => (q2 k h4).elim hn (by omega)
 have h1 := h.wn
 have h2 := h.nB
 exact ⟨S2, { h with bel := h.bel.trans (q3.1.mono (by omega)), bz := Nat.le_trans h.bz q3.1.size, nm := h.nm.buts q3 h.nB, rep := q1, so := fun k hk => (q2 k hk).elim (h.so k) (Nat.le_trans h.bz), rm := h.rm.same fun k hk => q3.2 k (h.rm.lt k hk) (h.ro k hk).2.1, ro := fun k hk => ⟨(h.ro k hk).1, key k (h.rm.lt k hk) (h.ro k hk).2.1, (h.ro k hk).2.2⟩, b3 := h.b3.below h.l3.2.1 q3.1, b8 := h.b8.buts q3 h.n8, n8 := key g8 h.b8.lt h.n8 }, key, q3⟩
theorem PS.st8 (h : PS w gn a c L B g0 S m mr Lr ap cp af cf g3 g8 X8 N V) {X9 : Array Value} (hX : Bx V2 g8 X9 28) (hb : But g8 V V2) : PS w gn a c L B g0 S m mr Lr ap cp af cf g3 g8 X9 N V2 :=
 have h1 := h.wn
 have h2 := h.nB
 have h3 := h.B8
 {h with bel := h.bel.trans (hb.1.mono (by omega)), bz := Nat.le_trans h.bz hb.1.size, nm := h.nm.but hb (by omega), rep := h.rep.same fun k hk => hb.2 k (h.rep.inn k hk) fun e => h.n8 (e ▸ hk), rm := h.rm.same fun k hk => hb.2 k (h.rm.lt k hk) (h.ro k hk).2.2, b3 := h.b3.but hb (by have := h.l3; omega), b8 := hX }
/-- A box of the walk. -/
structure BO (V : World) (B : Nat) (S : Nat → Prop) (gn g8 q : Nat) (cs : Array Value) (t : Nat) : Prop where
 bx : Bx V q cs t
 ns : ¬ S q
 qB : B ≤ q
 n8 : q ≠ g8
variable {q t : Nat} {cs : Array Value} {S2 : Nat → Prop}
theorem BO.below (h : BO V B S gn g8 q cs t) (hb : Below V.heap.size V V2) : BO V2 B S gn g8 q cs t := { h with bx := h.bx.below h.bx.lt hb }
theorem BO.num (h : BO V B S gn g8 q cs t) (hg : gn < B) (hb : But gn V V2) : BO V2 B S gn g8 q cs t := { h with bx := h.bx.but hb (by have := h.qB; omega) }
theorem BO.prog (h : BO V B S gn g8 q cs t) (hk : ∀ k, k < V.heap.size → ¬ S k → ¬ S2 k) (hb : ButS B S V V2) : BO V2 B S2 gn g8 q cs t := { h with bx := h.bx.buts hb h.ns, ns := hk q h.bx.lt h.ns }
theorem BO.st8 (h : BO V B S gn g8 q cs t) (hb : But g8 V V2) : BO V2 B S gn g8 q cs t := { h with bx := h.bx.but hb h.n8 }
theorem PS.box (h : PS w gn a c L B g0 S m mr Lr ap cp af cf g3 g8 X8 N V) (hX : Bx V2 V.heap.size cs t) : BO V2 B S gn g8 V.heap.size cs t := ⟨hX, fun hs => by have := h.rep.inn _ hs; omega, h.bz, by have := h.b8.lt; omega⟩
theorem PS.st9 (h : PS w gn a c L B g0 S m mr Lr ap cp af cf g3 g8 X8 N V) (hq : BO V B S gn g8 q cs t) (hb : But q V V2) (hr : ∀ k, RmB mr Lr ap af k → k ≠ q := by assumption) : PS w gn a c L B g0 S m mr Lr ap cp af cf g3 g8 X8 N V2 :=
 have h1 := h.wn
 have h2 := h.nB
 have h3 := hq.qB
 {h with bel := h.bel.trans (hb.1.mono (by omega)), bz := Nat.le_trans h.bz hb.1.size, nm := h.nm.but hb (by omega), rep := h.rep.same fun k hk => hb.2 k (h.rep.inn k hk) fun e => hq.ns (e ▸ hk), rm := h.rm.same fun k hk => hb.2 k (h.rm.lt k hk) (hr k hk), b3 := h.b3.but hb (by have := h.l3; omega), b8 := h.b8.but hb (Ne.symm hq.n8) }
/-- An entry of the walk. -/
structure EO (V : World) (B : Nat) (S : Nat → Prop) (g8 : Nat) (e : En) (d : Ad) : Prop where
 i : EnI V e d
 o : ∀ k, EB e d k → B ≤ k ∧ ¬ S k ∧ k ≠ g8
variable {e : En} {d : Ad}
theorem EO.below (h : EO V B S g8 e d) (hb : Below V.heap.size V V2) : EO V2 B S g8 e d := ⟨h.i.below hb, h.o⟩
end
def PlO (w : World) (e : Ending) (w' : World) : Prop := ∃ (g0 : Nat) (S : Nat → Prop) (m : Sm) (Lr : List (Pn × Ad)) (ap : Option Addr) (cp : Nat) (af : Option Addr) (cf : Nat), e = .returned (.tuple #[.pointer (some ⟨g0, 0, none⟩), .agg (rsA m.mo ap Lr.length cp af m.F.length cf), .bool true]) ∧ RepS w' g0 S m ∧ Rm w' m Lr ap cp af cf ∧ Wm m 300 ∧ Below w.heap.size w w'
/-- One box is written, at some time. -/
structure K1S (g t : Nat) (z c : Array Value) (b : Bool) (W V : World) : Prop where
 but : But g W V
 bx : Bx V g (cond b c z) t
theorem K1S.start {g t : Nat} {z c : Array Value} {W : World} (h : Bx W g z t) : K1S g t z c false W { W with drawn := W.drawn + 1 } := ⟨⟨(Below.refl _ W).drew, fun _ _ _ => rfl⟩, h.below h.lt (Below.refl _ W).drew⟩
theorem K1S.st {g t : Nat} {z c : Array Value} {W V : World} (h : K1S g t z c false W V) (hz : z.size = c.size) (h1 : c.all (·.oneCell') = true) (hs : (Try.prog.info? t).map (·.size) = some c.size) : ∃ V2, (Instr.storeAt t (.pointer (some ⟨g, 0, none⟩)) (.agg c)).run Try.prog V = .ok () V2 ∧ K1S g t z c true W V2 := by
 obtain ⟨V2, hst, hX, hbt⟩ := st_all (cs' := c) (ty := t) h.bx hz h1 hs
 exact ⟨V2, hst, h.but.trans hbt, hX⟩
set_option maxRecDepth 100000 in
set_option maxHeartbeats 8000000 in
theorem play_ok {w : World} {a : Option Addr} {c : Nat} {L : List Int} (hL : Cs w a (icells L)) (hl : L.length ≤ 160) : Calls Try.prog 10 #[.slice a L.length c] w (PlO w) := by
 have HL0 := Lib.hid hL
 have HLL : Hid (L.length ≤ 160) := Lib.hid hl
 have HL : Hid (L.length ≤ 100000) := Lib.hid (by omega)
 clear hL hl
 go_enter Try.func10, Try.ntmps10
 go_upto_region 1 with fail
 change Code.wp _ _ _ _ (w.alloc (.cells (rsA 0 none 0 0 none 0 0) 28))
 have hb_0 : Below w.heap.size w (w.alloc (.cells (rsA 0 none 0 0 none 0 0) 28)) := (Below.refl _ w).alloc (Nat.le_refl _) _
 have hX3 : Bx (w.alloc (.cells (rsA 0 none 0 0 none 0 0) 28)) w.heap.size (rsA 0 none 0 0 none 0 0) 28 := heap_alloc_last w _
 have hs_0 : (w.alloc (.cells (rsA 0 none 0 0 none 0 0) 28)).heap.size = w.heap.size + 1 := by simp
 generalize w.alloc (.cells (rsA 0 none 0 0 none 0 0) 28) = W at *
 obtain ⟨g3, hg3⟩ : ∃ g, w.heap.size = g := ⟨_, rfl⟩
 rw [hg3] at hX3
 have HGE : Hid (g3 = w.heap.size + 0 ∧ W.heap.size = w.heap.size + 1) := Lib.hid ⟨by omega, by omega⟩
 have HB := Lib.hid hb_0
 simp only [hg3]
 clear hb_0 hs_0 hg3
 have CF := mk_from a L.length c W
 have HL1 := Lib.hid (HL0.out.below HB.out)
 refine wl <| gz1 (.slice a L.length c) <| gze (fun v w' => v = .pointer (some ⟨W.heap.size, 0, none⟩) ∧ w' = W.alloc (.cells #[.slice a L.length c, .int .i64 0] 58)) (CF.mono fun e w' z => ⟨_, z.1, rfl, z.2⟩) (fun vv V0 hq => ?_)
 obtain ⟨rfl, hV0⟩ := hq
 have hb0 : Below W.heap.size W V0 := by rw [hV0]; exact (Below.refl _ W).alloc (Nat.le_refl _) _
 have hXn : Bx V0 W.heap.size #[.slice a L.length c, .int .i64 (0 : Nat)] 58 := by rw [hV0]; exact heap_alloc_last W _
 have hX3 := hX3.below hX3.lt hb0
 obtain ⟨gn, hgn⟩ : ∃ g, W.heap.size = g := ⟨_, rfl⟩
 rw [hgn] at hXn ⊢
 have hnm : Nm V0 gn a c L 0 := ⟨hXn, HL1.out.below hb0, fun hne x hx => by
  obtain ⟨b, off, e2, hb, -⟩ := HL0.out 0 _ (icells_at L 0 (List.length_pos_iff.2 hne))
  rw [hx] at e2; cases e2; have := HGE.out; show b < gn; omega⟩
 have HB0 := Lib.hid (HB.out.trans (hb0.mono HB.out.size))
 have HGN : Hid (g3 < gn ∧ w.heap.size ≤ g3 ∧ gn < V0.heap.size) := Lib.hid ⟨by have := HGE.out; omega, by have := HGE.out; omega, hnm.lt⟩
 clear hV0 hb0 hXn hgn
 simp only [pu]
 refine gz1 (.pointer (some ⟨gn, 0, none⟩)) <| wn ?_
 simp only [pu]
 clear CF HB HGE HL1
 go_upto_region 2 with fail
 refine wl <| gz1 (.pointer (some ⟨gn, 0, none⟩)) <|
  gze (fun v w' => ∃ q : Nat, v = .int .i64 q ∧ (q : Int) < 9 ∧ Nm w' gn a c L (0 + 1) ∧ But gn V0 w') ((nx hnm HL.out (by omega) 9 (by first | decide | omega) (by first | decide | omega)).mono fun e w' z => by obtain ⟨⟨q, h1, h2, -⟩, h3, h4⟩ := z; exact ⟨_, h1, q, rfl, h2, h3, h4⟩) (fun vv V1 hq => ?_)
 obtain ⟨v1, rfl, hv1, hns1, hbt1⟩ := hq
 simp only [pu]
 refine gzw (.int .i64 ((v1 : Int) - 1)) (sub_i rfl v1 1 (by omega)) <| gz1 (.int .i64 ((v1 : Int) - 1)) <| wn ?_
 simp only [pu]
 obtain ⟨mo, hmo⟩ : ∃ z : Int, (v1 : Int) - 1 = z := ⟨_, rfl⟩
 rw [hmo]
 have hX3 := hX3.but hbt1 (by have := HGN.out; omega)
 have HB1 := Lib.hid (HB0.out.trans (hbt1.1.mono (by have := HGN.out; omega)))
 have HV1 : Hid (gn < V1.heap.size) := Lib.hid hns1.lt
 have CN := q_new mo V1
 clear hmo hbt1 hv1 hnm HB0
 go_upto_region 3 with fail
 refine wl <| gz1 (.int .i64 mo) <| gze (fun v w' => ∃ g S, v = .pointer (some ⟨g, 0, none⟩) ∧ RepS w' g S (newS mo) ∧ (∀ j, S j → V1.heap.size ≤ j) ∧ Below V1.heap.size V1 w') (CN.mono fun e w' z => by obtain ⟨g, S, z1, z2⟩ := z; exact ⟨_, z1, g, S, rfl, z2⟩) (fun vv V2 hq => ?_)
 obtain ⟨g0, S, rfl, hr0, hso, hb2⟩ := hq
 have CRN := r_new mo V2
 simp only [pu]
 refine gz1 (.int .i64 mo) <| gzc (.agg (rsA (newS mo).mo none 0 0 none 0 0)) (fun w' => Below V2.heap.size V2 w') (CRN) (fun V3 hb3 => ?_)
 obtain ⟨V4, hst4, hb4, hX8⟩ := new_bx (c := (rsA 0 none 0 0 none 0 0)) (c' := (rsA (newS mo).mo none 0 0 none 0 0)) (ty := 28) V3 rfl (rs_one _ _ _ _ _ _ _) (by kernel_rfl)
 simp only [pu]
 refine run_to rfl (some 8) rfl (.pointer (some ⟨V3.heap.size, 0, none⟩)) (V3.alloc (.cells (rsA 0 none 0 0 none 0 0) 28)) (by kernel_rfl) ?_
 simp only [pu]
 refine gz1 (.pointer (some ⟨g0, 0, none⟩)) <| gzs rfl (hst4) <| wn ?_
 simp only [pu]
 have hb24 := hb3.trans (hb4.mono hb3.size)
 have hb14 := hb2.trans (hb24.mono hb2.size)
 obtain ⟨g8, hg8⟩ : ∃ g, V3.heap.size = g := ⟨_, rfl⟩
 rw [hg8] at hX8 ⊢
 obtain ⟨B, hB⟩ : ∃ B, V1.heap.size = B := ⟨_, rfl⟩
 have HPS : Hid (PS w gn a c L B g0 S (newS mo) (newS mo) [] none 0 none 0 g3 g8 (rsA (newS mo).mo none 0 0 none 0 0) 1 V4) := Lib.hid ⟨HB1.out.trans (hb14.mono HB1.out.size), by have := HGN.out; omega, by have := HV1.out; omega, by rw [← hB]; exact hb14.size, hns1.below hb14, hr0.below hb24, fun k hk => by rw [← hB]; exact hso k hk, ⟨rfl, Cs.nil _ _, Cs.nil _ _, Nat.le_refl 0, Nat.le_refl 0, fun i hi => by simp at hi⟩, fun k hk => by rcases hk with h | h | ⟨i, hi, -⟩; exact (h.1 rfl).elim; exact (h.1 rfl).elim; simp at hi, hX3.below hX3.lt hb14, ⟨HGN.out.2.1, by have := HGN.out; have := HV1.out; omega, by have := HGN.out; omega⟩, hX8, fun hs => by have := hr0.inn _ hs; have := hb3.size; omega, by have := hb2.size; have := hb3.size; omega⟩
 clear hst4 hb24 hb14 hg8 hB hX8 hb2 hb3 hb4 hr0 hso hns1 hX3 CN CRN HB1 HGN HV1
 go_upto_region 4 with fail
 refine wl <| gz2 (.pointer (some ⟨g0, 0, none⟩)) (.bool false) <| wn ?_
 simp only [pu]
 go_wp2_with fail
 go_loopg [10] (L.length - 1) (fun gg s10 wx => ∃ (N : Nat) (S : Nat → Prop) (m : Sm) (Lr : List (Pn × Ad)) (ap : Option Addr) (cp : Nat) (af : Option Addr) (cf : Nat) (v10 : Value), s10 = v10 ∧ gg = L.length - N ∧ Hid (N ≤ 200) ∧ Hid (Wm m N) ∧ Hid (PS w gn a c L B g0 S m m Lr ap cp af cf g3 g8 (rsA m.mo ap Lr.length cp af m.F.length cf) N wx))
 case atStart => exact ⟨1, S, newS mo, [], none, 0, none, 0, undef, rfl, rfl, Lib.hid (by omega), Lib.hid (Wm.new mo 1), HPS⟩
 case round =>
  obtain ⟨N, S, m, Lr, ap, cp, af, cf, v10, h10, hg, HNN, HWM, HPS2⟩ := hrel
  obtain rfl := h10.symm
  clear HPS
  have HGK := Lib.hid hg
  clear hg
  by_cases hlt : N < L.length
  ·skip
   go_upto_region 6 with fail
   refine wl <| gz3 (.pointer (some ⟨gn, 0, none⟩)) (.pointer (some ⟨gn, 0, none⟩)) (.pointer (some ⟨gn, 1, none⟩)) <| gzl rfl ⟨gn, 1, none⟩ (.int .i64 N) (HPS2.out.nm.1.load (i := 1) rfl (by kernel_rfl)) <| gz2 (.slice a L.length c) (.int .i64 L.length) <|
    gzb (lss_n rfl (N) (L.length) dT) <| wn ?_
   simp only [pu]
   go_upto_region 7 with fail
   refine wl <| gz1 (.pointer (some ⟨gn, 0, none⟩)) <|
    gze (fun v w' => ∃ q : Nat, v = .int .i64 q ∧ (q : Int) < 9 ∧ Nm w' gn a c L (N + 1) ∧ But gn wr w') ((nx HPS2.out.nm HL.out (by have := HNN.out; omega) 9 (by first | decide | omega) (by first | decide | omega)).mono fun e w' z => by obtain ⟨⟨q, h1, h2, -⟩, h3, h4⟩ := z; exact ⟨_, h1, q, rfl, h2, h3, h4⟩) (fun vv V1 hq => ?_)
   obtain ⟨v2, rfl, hv2, hns2, hbt2⟩ := hq
   have hP1 := HPS2.out.num hns2 hbt2
   simp only [pu]
   refine gzw (.int .i64 ((v2 : Int) - 1)) (sub_i rfl v2 1 (by omega)) <| gz1 (.pointer (some ⟨gn, 0, none⟩)) <|
    gze (fun v w' => ∃ q : Nat, v = .int .i64 q ∧ (q : Int) < 3 ∧ Nm w' gn a c L ((N + 1) + 1) ∧ But gn V1 w') ((nx hP1.nm HL.out (by have := HNN.out; omega) 3 (by first | decide | omega) (by first | decide | omega)).mono fun e w' z => by obtain ⟨⟨q, h1, h2, -⟩, h3, h4⟩ := z; exact ⟨_, h1, q, rfl, h2, h3, h4⟩) (fun vv V2 hq => ?_)
   obtain ⟨v3, rfl, hv3, hns3, hbt3⟩ := hq
   have hP2 := hP1.num hns3 hbt3
   obtain ⟨V3, hst3, hb3, hX9⟩ := new_bx (c := #[.int .i64 0, .int .i64 0]) (c' := #[.int .i64 ((v2 : Int) - 1), .int .i64 ((v3 : Int) - 1)]) (ty := 33) V2 rfl (by simp [Value.oneCell']) (by kernel_rfl)
   simp only [pu]
   refine gzw (.int .i64 ((v3 : Int) - 1)) (sub_i rfl v3 1 (by omega)) <| gz1 (.agg #[.int .i64 ((v2 : Int) - 1), .int .i64 ((v3 : Int) - 1)]) ?_
   simp only [pu]
   refine run_to rfl (some 9) rfl (.pointer (some ⟨V2.heap.size, 0, none⟩)) (V2.alloc (.cells (#[.int .i64 0, .int .i64 0]) 33)) (by kernel_rfl) ?_
   simp only [pu]
   refine gzs rfl (hst3) <| wn ?_
   obtain ⟨q0, hq0⟩ : ∃ q : Int × Int, ((v2 : Int) - 1, (v3 : Int) - 1) = q := ⟨_, rfl⟩
   have hX9 : Bx V3 V2.heap.size #[.int .i64 q0.1, .int .i64 q0.2] 33 := by rw [← hq0]; exact hX9
   have HO9 := Lib.hid (hP2.box hX9)
   have HR9 : Hid (∀ k, RmB m Lr ap af k → k ≠ V2.heap.size) := Lib.hid fun k hk => by have := hP2.rm.lt k hk; omega
   have HP3 := Lib.hid (hP2.below hb3)
   obtain ⟨g9, hg9⟩ : ∃ g, V2.heap.size = g := ⟨_, rfl⟩
   rw [hg9] at HO9 HR9 ⊢
   have CH := r_han HP3.out.rm HWM.out (by have := HNN.out; omega)
   clear hst3 hb3 hX9 hq0 hP1 hP2 hns2 hns3 hbt2 hbt3 hg9 HPS2
   go_upto_region 8 with fail
   refine wl <| gzl rfl ⟨g8, 0, none⟩ (.agg (rsA m.mo ap Lr.length cp af m.F.length cf)) (load_rs HP3.out.b8) <|
    gze (fun v w' => ∃ a2 c2, v = .slice a2 (hndL 0 m.P).length c2 ∧ RowH w' V3.heap.size (.slice a2 (hndL 0 m.P).length c2) (hndL 0 m.P) ∧ Below V3.heap.size V3 w') (CH.mono fun e w' z => by obtain ⟨a2, c2, z1, z2, z3⟩ := z; exact ⟨_, z1, a2, c2, rfl, z2, z3⟩) (fun vv V4 hq => ?_)
   obtain ⟨ah, ch, rfl, hrow, hb4⟩ := hq
   obtain ⟨nh, hnh⟩ : ∃ k, (hndL 0 m.P).length = k := ⟨_, rfl⟩
   have HP4 := Lib.hid (HP3.out.below hb4)
   have HO9 := Lib.hid (HO9.out.below hb4)
   have HNH : Hid (nh ≤ 512 ∧ (hndL 0 m.P).length = nh) := Lib.hid ⟨by have := hnd_len 0 m.P; have := HWM.out.pl; omega, hnh⟩
   have HRW : Hid (Cs V4 ah (hcs (hndL 0 m.P)) ∧ (∀ x, ah = some x → gn < x.block)) := Lib.hid ⟨(own_nc hrow).1, fun x hx => by have := (hrow.lt x.block (by rw [hx]; rfl)).1; have := HP3.out.bz; have := HP3.out.nB; omega⟩
   rw [hnh]
   simp only [pu]
   refine gz1 (.slice ah nh ch) <| wn ?_
   simp only [pu]
   clear hrow hb4 hnh CH HP3
   go_upto_region 9 with fail
   go_cut [55] (fun s55 wx => ∃ (N1 : Nat) (tb : Bool), s55 = .bool tb ∧ Hid (N + 2 ≤ N1 ∧ N1 ≤ N + 3) ∧ Hid (tb = true → 0 < nh) ∧ Hid (PS w gn a c L B g0 S m m Lr ap cp af cf g3 g8 (rsA m.mo ap Lr.length cp af m.F.length cf) N1 wx) ∧ Hid (BO wx B S gn g8 g9 #[.int .i64 q0.1, .int .i64 q0.2] 33) ∧ Hid (Cs wx ah (hcs (hndL 0 m.P))))
   case first =>
    by_cases hn0 : 0 < nh
    ·skip
     refine wl <| gz2 (.slice ah nh ch) (.int .i64 nh) <| gzb (gtr_n rfl (nh) (0) dT) <| gz2 (.bool true) (.pointer (some ⟨gn, 0, none⟩)) <|
      gze (fun v w' => ∃ q : Nat, v = .int .i64 q ∧ (q : Int) < 3 ∧ Nm w' gn a c L ((N + 1 + 1) + 1) ∧ But gn V4 w') ((nx HP4.out.nm HL.out (by have := HNN.out; omega) 3 (by first | decide | omega) (by first | decide | omega)).mono fun e w' z => by obtain ⟨⟨q, h1, h2, -⟩, h3, h4⟩ := z; exact ⟨_, h1, q, rfl, h2, h3, h4⟩) (fun vv V5 hq => ?_)
     obtain ⟨v4, rfl, hv4, hns4, hbt4⟩ := hq
     have HP5 := Lib.hid (HP4.out.num hns4 hbt4)
     have HO5 := Lib.hid (HO9.out.num HP4.out.nB hbt4)
     have HR5 : Hid (Cs V5 ah (hcs (hndL 0 m.P))) := Lib.hid (HRW.out.1.but hbt4 fun x hx => by have := HRW.out.2 x hx; omega)
     simp only [pu]
     clear hns4 hbt4
     by_cases hv0 : 0 < v4
     ·skip
      refine gzb (gtr_n rfl (v4) (0) dT) <| gz1 (.bool true) <| wn ?_
      simp only [pu]
      go_wp2_with fail
      go_meet
      exact ⟨N + 1 + 1 + 1, true, rfl, Lib.hid (by omega), Lib.hid (fun _ => hn0), HP5, HO5, HR5⟩
     ·skip
      refine gzb (gtr_n rfl (v4) (0) dF) <| gz1 (.bool false) <| wn ?_
      simp only [pu]
      go_wp2_with fail
      go_meet
      exact ⟨N + 1 + 1 + 1, false, rfl, Lib.hid (by omega), Lib.hid (fun _ => hn0), HP5, HO5, HR5⟩
    ·skip
     refine wl <| gz2 (.slice ah nh ch) (.int .i64 nh) <| gzb (gtr_n rfl (nh) (0) dF) <| gz5 (.bool false) undef undef undef (.bool false) <| wn ?_
     simp only [pu]
     go_wp2_with fail
     go_meet
     exact ⟨N + 1 + 1, false, rfl, Lib.hid (by omega), Lib.hid (fun h => nomatch h), HP4, HO9, Lib.hid HRW.out.1⟩
   case rest =>
    obtain ⟨N1, tb, rfl, HN1, HTB, HP5, HO5, HR5⟩ := hcut
    clear HP4 HO9
    go_upto_if 55 with fail
    go_cut [10] (fun s10 wx => ∃ (N2 : Nat) (q1 : Int × Int), s10 = .slice ah nh ch ∧ Hid (N + 2 ≤ N2 ∧ N2 ≤ N + 4) ∧ Hid (PS w gn a c L B g0 S m m Lr ap cp af cf g3 g8 (rsA m.mo ap Lr.length cp af m.F.length cf) N2 wx) ∧ Hid (BO wx B S gn g8 g9 #[.int .i64 q1.1, .int .i64 q1.2] 33))
    case first =>
     cases tb
     ·skip
      go_wp2_with fail
      go_meet
      exact ⟨N1, q0, rfl, Lib.hid (by have := HN1.out; omega), HP5, HO5⟩
     ·skip
      have hn0 := HTB.out rfl
      have hr5 := HR5.out
      obtain ⟨b, off, hab, hbl, -⟩ := fl_range hnl hn_len (by omega) ((0 : Int), (0 : Int)) hr5 (i := 0) (by rw [HNH.out.2]; exact hn0)
      obtain rfl := hab
      go_upto_region 10 with fail
      refine wl <| gz4 (.slice (some ⟨b, off, none⟩) nh ch) (.pointer (some ⟨gn, 0, none⟩)) (.slice (some ⟨b, off, none⟩) nh ch) (.int .i64 nh) <|
       gze (fun v w' => ∃ q : Nat, v = .int .i64 q ∧ (q : Int) < (nh : Int) ∧ Nm w' gn a c L (N1 + 1) ∧ But gn wc w') ((nx HP5.out.nm HL.out (by have := HNN.out; have := HN1.out; omega) nh (by omega) (by have := HNH.out; omega)).mono fun e w' z => by obtain ⟨⟨q, h1, h2, -⟩, h3, h4⟩ := z; exact ⟨_, h1, q, rfl, h2, h3, h4⟩) (fun vv V6 hq => ?_)
      obtain ⟨v5, rfl, hv5, hns5, hbt5⟩ := hq
      have HP6 := Lib.hid (HP5.out.num hns5 hbt5)
      have hO6 := HO5.out.num HP5.out.nB hbt5
      have hr6 : Cs V6 (some ⟨b, off, none⟩) (hcs (hndL 0 m.P)) := hr5.but hbt5 fun x hx => by have := HRW.out.2 x hx; omega
      have hv5n : v5 < nh := by omega
      obtain ⟨b2, off2, hab2, -, hrg⟩ := fl_range hnl hn_len (by omega) ((0 : Int), (0 : Int)) hr6 (i := v5) (by rw [HNH.out.2]; exact hv5n)
      simp only [Option.some.injEq, Addr.mk.injEq, and_true] at hab2
      obtain ⟨rfl, rfl⟩ := hab2
      obtain ⟨q1, hq1⟩ : ∃ q, (hndL 0 m.P).getD v5 (0, 0) = q := ⟨_, rfl⟩
      rw [hq1] at hrg
      obtain ⟨V7, hst7, hX7, hbt7⟩ := st_all (cs' := #[.int .i64 q1.1, .int .i64 q1.2]) (ty := 33) hO6.bx rfl (by simp [Value.oneCell']) (by kernel_rfl)
      have HP7 := Lib.hid (HP6.out.st9 hO6 hbt7 HR9.out)
      have HO7 : Hid (BO V7 B S gn g8 g9 #[.int .i64 q1.1, .int .i64 q1.2] 33) := Lib.hid { hO6 with bx := hX7 }
      simp only [pu]
      refine gzv (.pointer (some ⟨b, off + v5 * 2, none⟩)) (idx_hn b off nh ch v5 hv5n _ _ _ rfl (by kernel_rfl) (by kernel_rfl)) <| gzl rfl ⟨b, off + v5 * 2, none⟩ (.agg #[.int .i64 q1.1, .int .i64 q1.2]) (load_hn hrg) <| gzs rfl (hst7) <| wn ?_
      simp only [pu]
      clear hst7 hX7 hbt7 hrg hr6 hO6 hbt5 hns5 hv5 hq1
      go_wp2_with fail
      go_meet
      exact ⟨N1 + 1, q1, rfl, Lib.hid (by have := HN1.out; omega), HP7, HO7⟩
    case rest =>
     obtain ⟨N2, q1, rfl, HN2, HP6, HO6⟩ := hcut
     clear HP5 HO5 HR5 HTB HN1 HRW
     go_upto_region 11 with fail
     refine wl <| gz1 (.pointer (some ⟨gn, 0, none⟩)) <|
      gze (fun v w' => ∃ q : Nat, v = .int .i64 q ∧ (q : Int) < 5 ∧ Nm w' gn a c L (N2 + 1) ∧ But gn wc w') ((nx HP6.out.nm HL.out (by have := HNN.out; have := HN2.out; omega) 5 (by first | decide | omega) (by first | decide | omega)).mono fun e w' z => by obtain ⟨⟨q, h1, h2, -⟩, h3, h4⟩ := z; exact ⟨_, h1, q, rfl, h2, h3, h4⟩) (fun vv V8 hq => ?_)
     obtain ⟨v6, rfl, hv6, hns6, hbt6⟩ := hq
     have HP7 := Lib.hid (HP6.out.num hns6 hbt6)
     have HO7 := Lib.hid (HO6.out.num HP6.out.nB hbt6)
     simp only [pu]
     clear hns6 hbt6 HP6 HO6
     by_cases hv2 : v6 < 2
     ·skip
      refine gzb (lss_n rfl (v6) (2) dT) <| wn ?_
      simp only [pu]
      have CRR := r_rem q1 HP7.out.rm HWM.out (by have := HNN.out; omega)
      go_upto_region 12 with fail
      refine wl <| gzl rfl ⟨g8, 0, none⟩ (.agg (rsA m.mo ap Lr.length cp af m.F.length cf)) (load_rs HP7.out.b8) <| gzl rfl ⟨g9, 0, none⟩ (.agg #[.int .i64 q1.1, .int .i64 q1.2]) (load_hn (x := q1) (bx_range (cs := hnl q1) HO7.out.bx)) <|
       gze (fun v w' => ∃ L' ap' cp' af' cf', v = .tuple #[.agg (rsA (remS m q1).mo ap' L'.length cp' af' (remS m q1).F.length cf'), .bool (valS m q1)] ∧ Rm w' (remS m q1) L' ap' cp' af' cf' ∧ (∀ k, RmB (remS m q1) L' ap' af' k → RmB m Lr ap af k ∨ V8.heap.size ≤ k) ∧ Below V8.heap.size V8 w') (CRR.mono fun r w' z => by obtain ⟨L', ap', cp', af', cf', z1, z2⟩ := z; exact ⟨_, z1, L', ap', cp', af', cf', rfl, z2⟩) (fun vv V9 hq => ?_)
      obtain ⟨Lr2, ap2, cp2, af2, cf2, rfl, hrm, hsub, hb9⟩ := hq
      have hP9 := HP7.out.ref (Q := fun _ => False) hrm (fun k hk => (hsub k hk).imp id .inr) (fun k hk => hk.elim) hb9
      have hO9b := HO7.out.below hb9
      obtain ⟨V10, hst10, hb10, hX10⟩ := new_bx (c := (rsA 0 none 0 0 none 0 0)) (c' := (rsA (remS m q1).mo ap2 Lr2.length cp2 af2 (remS m q1).F.length cf2)) (ty := 28) V9 rfl (rs_one _ _ _ _ _ _ _) (by kernel_rfl)
      have hO10 := hP9.box hX10
      have HP10 := Lib.hid (hP9.below hb10)
      have HO10 := Lib.hid (hO9b.below hb10)
      simp only [pu]
      refine gz3 (.tuple #[.agg (rsA (remS m q1).mo ap2 Lr2.length cp2 af2 (remS m q1).F.length cf2), .bool (valS m q1)]) (.agg (rsA (remS m q1).mo ap2 Lr2.length cp2 af2 (remS m q1).F.length cf2)) (.bool (valS m q1)) ?_
      simp only [pu]
      refine run_to rfl (some 11) rfl (.pointer (some ⟨V9.heap.size, 0, none⟩)) (V9.alloc (.cells (rsA 0 none 0 0 none 0 0) 28)) (by kernel_rfl) ?_
      simp only [pu]
      refine gzs rfl (hst10) <| gz1 (.bool (valS m q1)) <| wn ?_
      simp only [pu]
      obtain ⟨g11, hg11⟩ : ∃ g, V9.heap.size = g := ⟨_, rfl⟩
      rw [hg11] at hO10 ⊢
      have HO11 := Lib.hid hO10
      clear hst10 hb10 hX10 hP9 hO9b hb9 hsub hrm CRR hg11 HP7 HO7 hO10
      have CR := q_rem q1 HP10.out.rep HWM.out (by have := HNN.out; omega) HP10.out.so HP10.out.bz
      go_upto_region 13 with fail
      refine wl <| gz1 (.pointer (some ⟨g0, 0, none⟩)) <| gzl rfl ⟨g9, 0, none⟩ (.agg #[.int .i64 q1.1, .int .i64 q1.2]) (load_hn (x := q1) (bx_range (cs := hnl q1) HO10.out.bx)) <| gzc (.bool (valS m q1)) (fun w' => UpdS g0 B S (remS m q1) V10 w') (CR) (fun V11 hu => ?_)
      obtain ⟨S2, hP11, hk11, hbu11⟩ := HP10.out.prog hu
      have hO11 := HO11.out.prog hk11 hbu11
      simp only [pu]
      refine gz1 (.bool (valS m q1)) <| gzw (.bool false) (neq_b rfl (valS m q1)) <| wn ?_
      simp only [pu]
      obtain ⟨V12, hst12, hX12, hbt12⟩ := st_all (cs' := (rsA (remS m q1).mo ap2 Lr2.length cp2 af2 (remS m q1).F.length cf2)) (ty := 28) hP11.b8 rfl (rs_one _ _ _ _ _ _ _) (by kernel_rfl)
      have HP12 := Lib.hid (hP11.st8 hX12 hbt12)
      have HWM2 : Hid (Wm (remS m q1) (N2 + 1)) := Lib.hid ((HWM.out.rem q1).mono (by have := HN2.out; omega))
      clear CR hP11 hk11 hbu11 hX12 hbt12 HP10 HO10
      go_upto_region 15 with fail
      refine wl <| gzl rfl ⟨g11, 0, none⟩ (.agg (rsA (remS m q1).mo ap2 Lr2.length cp2 af2 (remS m q1).F.length cf2)) (load_rs hO11.bx) <| gzs rfl (hst12) <| wn ?_
      simp only [pu]
      clear hst12 hO11
      go_wp2_with fail
      go_roundg (L.length - (N2 + 1))
      case measure => have := HGK.out; have := HN2.out; omega
      case rel => exact ⟨N2 + 1, S2, remS m q1, Lr2, ap2, cp2, af2, cf2, _, rfl, rfl, Lib.hid (by have := HN2.out; have := HLL.out; omega), HWM2, HP12⟩
     ·skip
      refine gzb (lss_n rfl (v6) (2) dF) <| wn ?_
      simp only [pu]
      have CE := mk_entry HP7.out.nm HL.out (by have := HNN.out; have := HN2.out; omega)
      go_upto_region 16 with fail
      refine wl <| gz1 (.pointer (some ⟨gn, 0, none⟩)) <|
       gze (fun v w' => ∃ (E : En) (d : Ad) (N' : Nat), v = .agg (enA E d) ∧ EnW w' V8.heap.size E d ∧ E.raw.length ≤ 8 ∧ E.prs.length ≤ 2 ∧ N2 + 1 + 1 ≤ N' ∧ N' ≤ N2 + 1 + 30 ∧ Nm w' gn a c L N' ∧ But gn V8 w') (CE.mono fun e w' z => by obtain ⟨E, d, N', z1, z2⟩ := z; exact ⟨_, z1, E, d, N', rfl, z2⟩) (fun vv V9 hq => ?_)
      obtain ⟨E, d, N3, rfl, hew, hel1, hel2, hN3, hN4, hns9, hbt9⟩ := hq
      have hP9 := HP7.out.num hns9 hbt9
      have hEO : EO V9 B S g8 E d := ⟨hew.i, fun k hk => by
       have h1 := hew.ge k hk
       have h2 := HP7.out.bz
       have h3 := HP7.out.b8.lt
       exact ⟨by omega, fun hs => by have := HP7.out.rep.inn k hs; omega, by omega⟩⟩
      obtain ⟨V10, hst10, hb10, hX10⟩ := new_bx (c := enA zEn zAd) (c' := enA E d) (ty := 44) V9 rfl (enA_one _ _) (by kernel_rfl)
      have hO10 := hP9.box hX10
      have HP10 := Lib.hid (hP9.below hb10)
      have HEO := Lib.hid (hEO.below hb10)
      have HEB : Hid (EnB E) := Lib.hid ⟨by omega, by omega⟩
      have HN3 : Hid (N2 + 2 ≤ N3 ∧ N3 ≤ N2 + 31) := Lib.hid (by omega)
      simp only [pu]
      refine run_to rfl (some 13) rfl (.pointer (some ⟨V9.heap.size, 0, none⟩)) (V9.alloc (.cells (enA zEn zAd) 44)) (by kernel_rfl) ?_
      simp only [pu]
      refine gzs rfl (hst10) <| wn ?_
      obtain ⟨g13, hg13⟩ : ∃ g, V9.heap.size = g := ⟨_, rfl⟩
      rw [hg13] at hO10 ⊢
      have HO13 := Lib.hid hO10
      clear hst10 hb10 hX10 hP9 hEO hew hel1 hel2 hN3 hN4 hns9 hbt9 CE hg13 HP7 HO7 hO10
      have CRA := r_add (e := E) (d := d) HP10.out.rm HWM.out (by have := HNN.out; omega) HEO.out.i
      go_upto_region 17 with fail
      refine wl <| gzl rfl ⟨g8, 0, none⟩ (.agg (rsA m.mo ap Lr.length cp af m.F.length cf)) (load_rs HP10.out.b8) <| gzl rfl ⟨g13, 0, none⟩ (.agg (enA E d)) (load_en (bx_range HO13.out.bx)) <|
       gze (fun v w' => ∃ L' ap' cp' af' cf', v = .tuple #[.agg (rsA (addS m E).mo ap' L'.length cp' af' (addS m E).F.length cf'), .agg #[.int .i64 (addH m).1, .int .i64 (addH m).2], .bool (addO m)] ∧ Rm w' (addS m E) L' ap' cp' af' cf' ∧ (∀ k, RmB (addS m E) L' ap' af' k → RmB m Lr ap af k ∨ EB E d k ∨ V10.heap.size ≤ k) ∧ Below V10.heap.size V10 w') (CRA.mono fun r w' z => by obtain ⟨L', ap', cp', af', cf', z1, z2⟩ := z; exact ⟨_, z1, L', ap', cp', af', cf', rfl, z2⟩) (fun vv V11 hq => ?_)
      obtain ⟨Lr2, ap2, cp2, af2, cf2, rfl, hrm, hsub, hb11⟩ := hq
      have hP11 := HP10.out.ref (Q := EB E d) hrm hsub HEO.out.o hb11
      have hE11 := HEO.out.below hb11
      have hO13 := HO13.out.below hb11
      obtain ⟨W2, hW2⟩ : ∃ X, (V11.alloc (.cells (rsA 0 none 0 0 none 0 0) 28)).alloc (.cells #[.int .i64 0, .int .i64 0] 33) = X := ⟨_, rfl⟩
      have hbW : Below V11.heap.size V11 W2 := by rw [← hW2]; exact ((Below.refl _ V11).alloc (Nat.le_refl _) _).alloc (by simp) _
      have hX14 : Bx W2 V11.heap.size (rsA 0 none 0 0 none 0 0) 28 := by rw [← hW2]; exact Bx.below (heap_alloc_last V11 _) (by simp) ((Below.refl _ _).alloc (Nat.le_refl _) _)
      have hX15 : Bx W2 (V11.heap.size + 1) #[.int .i64 0, .int .i64 0] 33 := by
       rw [← hW2]
       have := heap_alloc_last (V11.alloc (.cells (rsA 0 none 0 0 none 0 0) 28)) (.cells #[.int .i64 0, .int .i64 0] 33)
       rwa [show (V11.alloc (.cells (rsA 0 none 0 0 none 0 0) 28)).heap.size = V11.heap.size + 1 by simp] at this
      obtain ⟨W3, hst12, hX14b, hbt12⟩ := st_all (cs' := (rsA (addS m E).mo ap2 Lr2.length cp2 af2 (addS m E).F.length cf2)) (ty := 28) hX14 rfl (rs_one _ _ _ _ _ _ _) (by kernel_rfl)
      have hX15b := hX15.but hbt12 (by omega)
      obtain ⟨W4, hst13, hX15c, hbt13⟩ := st_all (cs' := #[.int .i64 (addH m).1, .int .i64 (addH m).2]) (ty := 33) hX15b rfl (by simp [Value.oneCell']) (by kernel_rfl)
      have hX14c := hX14b.but hbt13 (by omega)
      have hb14 : Below V11.heap.size V11 W4 := (hbW.trans hbt12.1).trans (hbt13.1.mono (by omega))
      have HP14 := Lib.hid (hP11.below hb14)
      have HE14 := Lib.hid (hE11.below hb14)
      have HO13 := Lib.hid (hO13.below hb14)
      have hs12 : V11.heap.size < W4.heap.size := hX14c.lt
      have HO14 : Hid (BO W4 B S gn g8 V11.heap.size (rsA (addS m E).mo ap2 Lr2.length cp2 af2 (addS m E).F.length cf2) 28) := Lib.hid ⟨hX14c, fun hs => by have := hP11.rep.inn _ hs; omega, hP11.bz, by have := hP11.b8.lt; omega⟩
      have HO15 : Hid (BO W4 B S gn g8 (V11.heap.size + 1) #[.int .i64 (addH m).1, .int .i64 (addH m).2] 33) := Lib.hid ⟨hX15c, fun hs => by have := hP11.rep.inn _ hs; omega, by have := hP11.bz; omega, by have := hP11.b8.lt; omega⟩
      simp only [pu]
      refine gz4 (.tuple #[.agg (rsA (addS m E).mo ap2 Lr2.length cp2 af2 (addS m E).F.length cf2), .agg #[.int .i64 (addH m).1, .int .i64 (addH m).2], .bool (addO m)]) (.agg (rsA (addS m E).mo ap2 Lr2.length cp2 af2 (addS m E).F.length cf2)) (.agg #[.int .i64 (addH m).1, .int .i64 (addH m).2]) (.bool (addO m)) ?_
      simp only [pu]
      refine run_to rfl (some 14) rfl (.pointer (some ⟨V11.heap.size, 0, none⟩)) (V11.alloc (.cells (rsA 0 none 0 0 none 0 0) 28)) (by kernel_rfl) ?_
      simp only [pu]
      refine run_to rfl (some 15) rfl (.pointer (some ⟨V11.heap.size + 1, 0, none⟩)) W2 (by rw [← hW2, ← show (V11.alloc (.cells (rsA 0 none 0 0 none 0 0) 28)).heap.size = V11.heap.size + 1 by simp]; kernel_rfl) ?_
      obtain ⟨g14, hg14⟩ : ∃ g, V11.heap.size = g := ⟨_, rfl⟩
      obtain ⟨g15, hg15⟩ : ∃ g, g14 + 1 = g := ⟨_, rfl⟩
      rw [hg14] at HO14 HO15 hst12 hst13 ⊢
      rw [hg15] at HO15 hst13 ⊢
      simp only [pu]
      refine gzs rfl (hst12) <| gzs rfl (hst13) <| gz1 (.bool (addO m)) <| wn ?_
      simp only [pu]
      clear hst12 hst13 hs12 hb14 hX14c hX15c hbt13 hX15b hX14b hbt12 hX15 hX14 hbW hW2 hO13 hE11 hP11 hb11 hsub hrm CRA hg14 hg15 HP10 HEO
      have CA := q_add (e := E) (d := d) HP14.out.rep HWM.out HE14.out.i HEB.out (fun k hk => (HE14.out.o k hk).2.1) HP14.out.so HP14.out.bz
      go_upto_region 18 with fail
      refine wl <| gz1 (.pointer (some ⟨g0, 0, none⟩)) <| gzl rfl ⟨g13, 0, none⟩ (.agg (enA E d)) (load_en (bx_range HO13.out.bx)) <| gzc (.tuple #[.agg #[.int .i64 (addH m).1, .int .i64 (addH m).2], .bool (addO m)]) (fun w' => UpdS g0 B S (addS m E) W4 w') (CA) (fun V12 hu => ?_)
      obtain ⟨S2, hP12, hk12, hbu12⟩ := HP14.out.prog hu
      have hO14 := HO14.out.prog hk12 hbu12
      have hO15 := HO15.out.prog hk12 hbu12
      obtain ⟨V13, hst14, hb15, hX17⟩ := new_bx (c := #[.int .i64 0, .int .i64 0]) (c' := #[.int .i64 (addH m).1, .int .i64 (addH m).2]) (ty := 33) V12 rfl (by simp [Value.oneCell']) (by kernel_rfl)
      have hP13 := hP12.below hb15
      have hO14 := hO14.below hb15
      have hO15 := hO15.below hb15
      simp only [pu]
      refine gz3 (.tuple #[.agg #[.int .i64 (addH m).1, .int .i64 (addH m).2], .bool (addO m)]) (.agg #[.int .i64 (addH m).1, .int .i64 (addH m).2]) (.bool (addO m)) ?_
      simp only [pu]
      refine run_to rfl (some 17) rfl (.pointer (some ⟨V12.heap.size, 0, none⟩)) (V12.alloc (.cells (#[.int .i64 0, .int .i64 0]) 33)) (by kernel_rfl) ?_
      simp only [pu]
      refine gzs rfl (hst14) <| gz1 (.bool (addO m)) <| wn ?_
      simp only [pu]
      obtain ⟨g17, hg17⟩ : ∃ g, V12.heap.size = g := ⟨_, rfl⟩
      rw [hg17] at hX17 ⊢
      clear hst14 hb15 hg17 CA hP12 hk12 hbu12 HP14 HE14 HO13
      go_upto_region 19 with fail
      refine wl <| gzl rfl ⟨g17, 0, none⟩ (.agg #[.int .i64 (addH m).1, .int .i64 (addH m).2]) (load_hn (x := addH m) (bx_range (cs := hnl (addH m)) hX17)) <|
       gzl rfl ⟨g15, 0, none⟩ (.agg #[.int .i64 (addH m).1, .int .i64 (addH m).2]) (load_hn (x := addH m) (bx_range (cs := hnl (addH m)) hO15.bx)) <| gzw (.bool false) (neq_hn rfl (addH m)) <| gz3 (.bool false) (.bool (addO m)) (.bool (addO m)) <|
       gzw (.bool false) (neq_b rfl (addO m)) <| gz1 (.bool false) <| wn ?_
      simp only [pu]
      obtain ⟨V15, hst16, hX16, hbt16⟩ := st_all (cs' := (rsA (addS m E).mo ap2 Lr2.length cp2 af2 (addS m E).F.length cf2)) (ty := 28) hP13.b8 rfl (rs_one _ _ _ _ _ _ _) (by kernel_rfl)
      have HP15 := Lib.hid (hP13.st8 hX16 hbt16)
      have HWM2 : Hid (Wm (addS m E) N3) := Lib.hid ((HWM.out.add HEB.out).mono (by have := HN2.out; have := HN3.out; omega))
      clear hP13 hX16 hbt16 hX17 hO15
      go_upto_region 21 with fail
      refine wl <| gzl rfl ⟨g14, 0, none⟩ (.agg (rsA (addS m E).mo ap2 Lr2.length cp2 af2 (addS m E).F.length cf2)) (load_rs hO14.bx) <| gzs rfl (hst16) <| wn ?_
      simp only [pu]
      clear hst16 hO14
      go_wp2_with fail
      go_roundg (L.length - N3)
      case measure => have := HGK.out; have := HN2.out; have := HN3.out; omega
      case rel => exact ⟨N3, S2, addS m E, Lr2, ap2, cp2, af2, cf2, _, rfl, rfl, Lib.hid (by have := HN2.out; have := HN3.out; have := HLL.out; omega), HWM2, HP15⟩
  ·skip
   go_upto_region 6 with fail
   refine wl <| gz3 (.pointer (some ⟨gn, 0, none⟩)) (.pointer (some ⟨gn, 0, none⟩)) (.pointer (some ⟨gn, 1, none⟩)) <| gzl rfl ⟨gn, 1, none⟩ (.int .i64 N) (HPS2.out.nm.1.load (i := 1) rfl (by kernel_rfl)) <| gz2 (.slice a L.length c) (.int .i64 L.length) <|
    gzb (lss_n rfl (N) (L.length) dF) <| wn ?_
   simp only [pu]
   go_upto_region 22 with fail
   have h0 := K1S.start (c := (rsA m.mo ap Lr.length cp af m.F.length cf)) HPS2.out.b3
   have HX8 := Lib.hid HPS2.out.b8
   have HX83 : Hid (g8 ≠ g3) := Lib.hid (by have := HPS2.out.l3; have := HPS2.out.B8; omega)
   refine wp_region_inv (fun listed act9 V => ∃ b0 b1 b2 b3 b4 : Bool, listed = #[b0, b1, b2, b3, b4] ∧ act9 = { tmps := #[.slice a L.length c, undef, (cond b2 (.pointer (some ⟨g0, 0, none⟩)) (u2)), .pointer (some ⟨g3, 0, none⟩), (cond b4 (.bool true) (u4)), .pointer (some ⟨gn, 0, none⟩), .int .i64 mo, .pointer (some ⟨g0, 0, none⟩), .pointer (some ⟨g8, 0, none⟩), u9, v10, u11, u12, u13, u14, u15, u16, u17, u18, .slice a L.length c, .pointer (some ⟨gn, 0, none⟩), .pointer (some ⟨gn, 0, none⟩), .int .i64 v1, .int .i64 mo, .int .i64 mo, .pointer (some ⟨g0, 0, none⟩), .int .i64 mo, .agg (rsA (newS mo).mo none 0 0 none 0 0), .pointer (some ⟨g0, 0, none⟩), .bool false, undef, undef, .pointer (some ⟨gn, 0, none⟩), .pointer (some ⟨gn, 0, none⟩), .pointer (some ⟨gn, 1, none⟩), .int .i64 N, .slice a L.length c, .int .i64 L.length, .bool false, u39, u40, u41, u42, u43, u44, u45, u46, u47, u48, u49, u50, u51, u52, u53, u54, u55, u56, u57, u58, u59, u60, u61, u62, u63, u64, u65, u66, u67, u68, u69, u70, u71, u72, u73, u74, u75, u76, u77, u78, u79, u80, u81, u82, u83, u84, u85, u86, u87, u88, u89, u90, u91, u92, u93, u94, u95, u96, u97, u98, u99, u100, u101, u102, u103, u104, u105, (cond b0 (.pointer (some ⟨g0, 0, none⟩)) undef), (cond b1 (.agg (rsA m.mo ap Lr.length cp af m.F.length cf)) undef)], defers := [] } ∧ K1S g3 28 (rsA 0 none 0 0 none 0 0) (rsA m.mo ap Lr.length cp af m.F.length cf) b3 wr V) (by kernel_rfl) (by kernel_rfl) ?_ ?_ ?_
   ·exact ⟨false, false, false, false, false, rfl, rfl, h0⟩
   ·intro i9 listed act9 V hi9 hr hJ
    obtain ⟨b0, b1, b2, b3, b4, rfl, rfl, hF⟩ := hJ
    have hi2 : i9 < 5 := hi9
    have hi3 : i9 = 0 ∨ i9 = 1 ∨ i9 = 2 ∨ i9 = 3 ∨ i9 = 4 := by omega
    rcases hi3 with rfl | rfl | rfl | rfl | rfl
    ·obtain rfl : b0 = false := ready_self hr
     refine st_val rfl (by kernel_rfl) (some 106) rfl (.pointer (some ⟨g0, 0, none⟩)) V (by kernel_rfl) ?_
     exact ⟨true, b1, b2, b3, b4, rfl, rfl, hF⟩
    ·obtain rfl : b1 = false := ready_self hr
     refine st_load rfl (by kernel_rfl) (some 107) rfl 28 (.tmp 8) rfl ⟨g8, 0, none⟩ (.agg (rsA m.mo ap Lr.length cp af m.F.length cf)) (by kernel_rfl) (load_rs (HX8.out.but hF.but HX83.out)) ?_
     exact ⟨b0, true, b2, b3, b4, rfl, rfl, hF⟩
    ·obtain rfl : b2 = false := ready_self hr
     obtain rfl : b0 = true := ready_dep hr 0 (by kernel_rfl)
     refine st_val rfl (by kernel_rfl) (some 2) rfl (.pointer (some ⟨g0, 0, none⟩)) V (by kernel_rfl) ?_
     exact ⟨true, b1, true, b3, b4, rfl, rfl, hF⟩
    ·obtain rfl : b3 = false := ready_self hr
     obtain rfl : b1 = true := ready_dep hr 1 (by kernel_rfl)
     obtain ⟨V9, hst9, hF9⟩ := hF.st rfl (rs_one _ _ _ _ _ _ _) (by kernel_rfl)
     refine st_storeA rfl (by kernel_rfl) rfl 28 (.tmp 3) (.tmp 107) rfl (.pointer (some ⟨g3, 0, none⟩)) (.agg (rsA m.mo ap Lr.length cp af m.F.length cf)) (by kernel_rfl) (by kernel_rfl) V9 hst9 ?_
     exact ⟨b0, true, b2, true, b4, rfl, rfl, hF9⟩
    ·obtain rfl : b4 = false := ready_self hr
     refine st_val rfl (by kernel_rfl) (some 4) rfl (.bool true) V (by kernel_rfl) ?_
     exact ⟨b0, b1, b2, b3, true, rfl, rfl, hF⟩
   ·intro act9 V hJ
    obtain ⟨b0, b1, b2, b3, b4, he, rfl, hF⟩ := hJ
    have he : (#[true, true, true, true, true] : Array Bool) = #[b0, b1, b2, b3, b4] := he
    simp only [Array.mk.injEq, List.cons.injEq, and_true] at he
    obtain ⟨rfl, rfl, rfl, rfl, rfl⟩ := he
    simp only [cond_true]
    have hY := hF.bx
    have HPE : Hid (PlO w (.returned (.tuple #[.pointer (some ⟨g0, 0, none⟩), .agg (rsA m.mo ap Lr.length cp af m.F.length cf), .bool true])) V) := Lib.hid ⟨g0, S, m, Lr, ap, cp, af, cf, rfl, HPS2.out.rep.same fun k hk => hF.but.2 k (HPS2.out.rep.inn k hk) (by have := HPS2.out.so k hk; have := HPS2.out.l3; omega), HPS2.out.rm.same fun k hk => hF.but.2 k (HPS2.out.rm.lt k hk) (by have := (HPS2.out.ro k hk).1; have := HPS2.out.l3; omega), HWM.out.mono (by have := HNN.out; omega), HPS2.out.bel.trans (hF.but.1.mono HPS2.out.l3.1)⟩
    clear hF
    go_wp2_with fail
    exact bodyPost_ret (results_ct rfl (.pointer (some ⟨g0, 0, none⟩)) (by kernel_rfl) (load_rs hY) (by kernel_rfl) (by kernel_rfl)) rfl HPE.out
end Go.Proofs.Ytmpajgaanghpoaa
