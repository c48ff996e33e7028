/-
 The walk of ExpiryPlays.
-/
import Derived.Test.YtdjphghoollejaaKN
namespace Go.Proofs.Ytdjphghoollejaa
attribute [local irreducible] wpList wpQuiet
open Go.RowKit
set_option maxRecDepth 100000
set_option linter.unusedSimpArgs false
set_option linter.unusedVariables false

theorem rem_le (k : Int) : ∀ m : List Wt, (remW k m).length ≤ m.length
 | [] => Nat.le_refl 0
 | x :: r => by
  rw [remW]
  split
  ·rw [List.length_cons]; omega
  ·rw [List.length_cons, List.length_cons]; have := rem_le k r; omega
theorem add_le (m : List Wt) (z : Wt) : (addW m z).length ≤ m.length + 1 := by
 unfold addW
 split
 ·omega
 ·rw [List.length_append, List.length_append, List.length_take, List.length_drop, List.length_singleton]; omega
/-- While a queue and its elements are played with. -/
structure PS (w : World) (gn : Nat) (a : Option Addr) (c : Nat) (L : List Int) (B g0 : Nat) (S : Nat → Prop) (bl sp : Int) (m mr : List Wt) (al : Option Addr) (cm : Nat) (N : Nat) (V : World) : Prop where
 bel : Below w.heap.size w V
 wn : w.heap.size ≤ gn
 nB : gn < B
 bz : B ≤ V.heap.size
 nm : Nm V gn a c L N
 rep : RepQ V g0 S bl sp m
 so : ∀ k, S k → B ≤ k
 rw : Cs V al (wtcs mr)
 rl : mr.length ≤ cm
 ro : ∀ k, rb al (wtcs mr) k → B ≤ k ∧ ¬ S k
section
variable {w : World} {gn : Nat} {a : Option Addr} {c : Nat} {L : List Int} {B g0 : Nat} {S : Nat → Prop} {bl sp : Int} {m mr m2 mr2 : List Wt} {al : Option Addr} {cm N N2 : Nat} {V V2 : World}
theorem PS.num (h : PS w gn a c L B g0 S bl sp m mr al cm N V) (hn : Nm V2 gn a c L N2) (hb : But gn V V2) : PS w gn a c L B g0 S bl sp m mr al cm N2 V2 :=
 have h1 := h.nB
 {h with bel := h.bel.trans (hb.1.mono h.wn), bz := Nat.le_trans h.bz hb.1.size, nm := hn, rep := h.rep.same fun k hk => hb.2 k (h.rep.inn k hk) (by have := h.so k hk; omega), rw := cs_same h.rw fun k hk => hb.2 k (cs_rlt h.rw k hk) (by have := (h.ro k hk).1; omega) }
theorem PS.below (h : PS w gn a c L B g0 S bl sp m mr al cm N V) (hb : Below V.heap.size V V2) : PS w gn a c L B g0 S bl sp m mr al cm N V2 :=
 {h with bel := h.bel.trans (hb.mono h.bel.size), bz := Nat.le_trans h.bz hb.size, nm := h.nm.below hb, rep := h.rep.below hb, rw := h.rw.below hb }
theorem PS.ref (h : PS w gn a c L B g0 S bl sp m mr al cm N V) {b : Bool} {e : Ending} (hr : RwO V al mr mr2 b e V2) : ∃ a2 c2, e = .returned (.tuple #[.slice a2 mr2.length c2, .bool b]) ∧ PS w gn a c L B g0 S bl sp m mr2 a2 c2 N V2 := by
 obtain ⟨a2, c2, h1, h2, h3, h4, h5⟩ := hr
 have h6 := h.bz
 exact ⟨a2, c2, h1, { h with bel := h.bel.trans (h5.mono h.bel.size), bz := Nat.le_trans h.bz h5.size, nm := h.nm.below h5, rep := h.rep.below h5, rw := h2, rl := h3, ro := fun k hk => (h4 k hk).elim (h.ro k) fun h7 => ⟨by omega, fun hS => by have := h.rep.inn k hS; omega⟩ }⟩
theorem PS.prog (h : PS w gn a c L B g0 S bl sp m mr al cm N V) (hu : UpdQ g0 B S bl sp m2 V V2) : ∃ S2, PS w gn a c L B g0 S2 bl sp m2 mr al cm N V2 := by
 obtain ⟨S2, q1, q2, q3⟩ := hu
 have h1 := h.wn
 have h2 := h.nB
 exact ⟨S2, { h with bel := h.bel.trans (q3.1.mono (by omega)), bz := Nat.le_trans h.bz q3.1.size, nm := h.nm.buts q3 h.nB, rep := q1, so := fun k hk => (q2 k hk).elim (h.so k) (Nat.le_trans h.bz), rw := cs_same h.rw fun k hk => q3.2 k (cs_rlt h.rw k hk) (h.ro k hk).2, ro := fun k hk => ⟨(h.ro k hk).1, fun hS => (q2 k hS).elim (h.ro k hk).2 fun h4 => by have := cs_rlt h.rw k hk; omega⟩ }⟩
end
set_option maxRecDepth 100000 in
set_option maxHeartbeats 8000000 in
theorem plays_core (a : Option Addr) (c : Nat) (L : List Int) (bl sp : Int) (h1 : I64 bl) (h2 : I64 sp) (w : World) (hl : L.length ≤ 9223372036854775807) (hr : Cs w a (icells L)) : Calls Try.prog 3 #[.slice a L.length c, .int .i64 bl, .int .i64 sp] w fun e w' => e = .returned (.bool true) ∧ Below w.heap.size w w' := by
 have HR := Lib.hid hr
 have HI1 := Lib.hid h1
 have HI2 := Lib.hid h2
 clear hr h1 h2
 go_enter Try.func3, Try.ntmps3
 go_upto_region 1 with fail
 have hbd := one_row a L.length c w
 have hXl : Bx (w.alloc (.cells #[.slice a L.length c] 22)) w.heap.size #[.slice a L.length c] 22 := heap_alloc_last w _
 have hbl : Below w.heap.size w (w.alloc (.cells #[.slice a L.length c] 22)) := (Below.refl _ w).alloc (Nat.le_refl _) _
 have CL := long_one w.heap.size a L.length c _ hXl hl
 generalize w.alloc (.cells #[.slice a L.length c] 22) = W1 at *
 have HB1 := Lib.hid hbl
 clear hXl hbl
 by_cases hlong : 160 < L.length
 ·skip
  rw [decide_eq_true (by omega)] at CL
  refine wl <| gz1 (.slice a L.length c) ?_
  simp only [pu]
  refine gw_build (by kernel_rfl) (some 20) rfl 50 1 #[(0, .tmp 19)] rfl #[(0, .slice a L.length c)] (by kernel_rfl) (.slice (some ⟨w.heap.size, 0, none⟩) 1 1) _ hbd ?_
  simp only [pu]
  refine gzc (.bool true) (fun w' => W1 = w') (CL) (fun V9 hV9 => ?_)
  subst hV9
  simp only [pu]
  apply wpList_nil
  clear CL hbd
  have CK := known_true W1
  go_upto_region 2 with fail
  refine wl <| gzc (.bool true) (fun w' => Below W1.heap.size W1 w') (CK) (fun V8 hV8 => ?_)
  simp only [pu]
  refine gz1 (.bool true) <| wn ?_
  simp only [pu]
  have HE := HB1.out.trans (hV8.mono HB1.out.size)
  go_wp2_with fail
  go_ret
  exact ⟨rfl, HE⟩
 ·skip
  rw [decide_eq_false (by omega)] at CL
  have hlong : L.length ≤ 160 := by omega
  refine wl <| gz1 (.slice a L.length c) ?_
  simp only [pu]
  refine gw_build (by kernel_rfl) (some 20) rfl 50 1 #[(0, .tmp 19)] rfl #[(0, .slice a L.length c)] (by kernel_rfl) (.slice (some ⟨w.heap.size, 0, none⟩) 1 1) _ hbd ?_
  simp only [pu]
  refine gzc (.bool false) (fun w' => W1 = w') (CL) (fun V9 hV9 => ?_)
  subst hV9
  simp only [pu]
  apply wpList_nil
  clear CL hbd
  have HLL : Hid (L.length ≤ 160) := Lib.hid hlong
  have HL : Hid (L.length ≤ 100000) := Lib.hid (by omega)
  have HR1 := Lib.hid (HR.out.below HB1.out)
  have CF := mk_from a L.length c W1
  clear hlong HR hl
  go_upto_region 3 with fail
  refine wl <| gz1 (.slice a L.length c) <| gze (fun v w' => v = .pointer (some ⟨W1.heap.size, 0, none⟩) ∧ w' = W1.alloc (.cells #[.slice a L.length c, .int .i64 0] 32)) (CF.mono fun e w' z => ⟨_, z.1, rfl, z.2⟩) (fun vv V0 hq => ?_)
  obtain ⟨rfl, hV0⟩ := hq
  have hb0 : Below W1.heap.size W1 V0 := by rw [hV0]; exact (Below.refl _ W1).alloc (Nat.le_refl _) _
  have hXn : Bx V0 W1.heap.size #[.slice a L.length c, .int .i64 (0 : Nat)] 32 := by rw [hV0]; exact heap_alloc_last W1 _
  obtain ⟨gn, hgn⟩ : ∃ g, W1.heap.size = g := ⟨_, rfl⟩
  rw [hgn] at hXn ⊢
  have hnm : Nm V0 gn a c L 0 := ⟨hXn, HR1.out.below hb0, fun hne x hx => by
   obtain ⟨b, off, e2, hb, -⟩ := HR1.out 0 _ (icells_at L 0 (List.length_pos_iff.2 hne))
   rw [hx] at e2; cases e2; rw [hgn] at hb; exact hb⟩
  have HGN : Hid (w.heap.size ≤ gn ∧ gn < V0.heap.size) := Lib.hid ⟨by rw [← hgn]; exact HB1.out.size, hnm.lt⟩
  have HNM := Lib.hid hnm
  have HB0 := Lib.hid (HB1.out.trans (hb0.mono HB1.out.size))
  clear hV0 hb0 hXn hgn hnm CF HR1 HB1
  simp only [pu]
  refine gz1 (.pointer (some ⟨gn, 0, none⟩)) <| wn ?_
  simp only [pu]
  go_upto_region 4 with fail
  refine wl <| gz1 (.pointer (some ⟨gn, 0, none⟩)) <| gze (fun v w' => ∃ q : Nat, v = .int .i64 q ∧ (q : Int) < 4 ∧ Nm w' gn a c L (0 + 1) ∧ But gn V0 w') (nx2 HNM.out HL.out (by decide) 4 (by decide) (by decide)) (fun vv V1 hq => ?_)
  obtain ⟨v1, rfl, hv1, hns1, hbt1⟩ := hq
  have HNM1 := Lib.hid hns1
  have HB1 := Lib.hid (HB0.out.trans (hbt1.1.mono HGN.out.1))
  have HS1 : Hid (V0.heap.size ≤ V1.heap.size) := Lib.hid hbt1.1.size
  clear hns1 hbt1 HNM HB0
  simp only [pu]
  by_cases h4 : 0 < v1
  ·skip
   refine gzb (gtr_n rfl v1 0 dT) <| wn ?_
   simp only [pu]
   clear h4 hv1
   go_upto_region 5 with fail
   refine wl <| gz1 (.pointer (some ⟨gn, 0, none⟩)) <| gze (fun v w' => ∃ q : Nat, v = .int .i64 q ∧ (q : Int) < 5 ∧ Nm w' gn a c L ((0 + 1) + 1) ∧ But gn V1 w') (nx2 HNM1.out HL.out (by decide) 5 (by decide) (by decide)) (fun vv V2 hq => ?_)
   obtain ⟨v2, rfl, hv2, hns2, hbt2⟩ := hq
   have HNM2 := Lib.hid hns2
   have HB2 := Lib.hid (HB1.out.trans (hbt2.1.mono HGN.out.1))
   have HS2 : Hid (V1.heap.size ≤ V2.heap.size) := Lib.hid hbt2.1.size
   clear hns2 hbt2 HNM1 HB1
   simp only [pu]
   refine gzw (.int .i64 ((v2 : Int) - 1)) (sub_i rfl v2 1 (by omega)) <| gz1 (.pointer (some ⟨gn, 0, none⟩)) <|
    gze (fun v w' => ∃ q : Nat, v = .int .i64 q ∧ (q : Int) < 6 ∧ Nm w' gn a c L ((0 + 1 + 1) + 1) ∧ But gn V2 w') (nx2 HNM2.out HL.out (by decide) 6 (by decide) (by decide)) (fun vv V3 hq => ?_)
   obtain ⟨v3, rfl, hv3, hns3, hbt3⟩ := hq
   have HNM3 := Lib.hid hns3
   have HB3 := Lib.hid (HB2.out.trans (hbt3.1.mono HGN.out.1))
   have HS3 : Hid (V2.heap.size ≤ V3.heap.size) := Lib.hid hbt3.1.size
   clear hns3 hbt3 HNM2 HB2
   simp only [pu]
   refine gzw (.int .i64 ((v3 : Int) - 1)) (sub_i rfl v3 1 (by omega)) <| gz2 (.int .i64 ((v2 : Int) - 1)) (.int .i64 ((v3 : Int) - 1)) <| wn ?_
   simp only [pu]
   obtain ⟨bl, hbl⟩ : ∃ b : Int, (v2 : Int) - 1 = b := ⟨_, rfl⟩
   obtain ⟨sp, hsp⟩ : ∃ b : Int, (v3 : Int) - 1 = b := ⟨_, rfl⟩
   have HBL : Hid (I64 bl) := Lib.hid ⟨by omega, by omega⟩
   have HSP : Hid (I64 sp) := Lib.hid ⟨by omega, by omega⟩
   rw [hbl, hsp]
   clear hbl hsp hv2 hv3
   have CN := q_new bl sp V3
   go_upto_region 6 with fail
   refine wl <| gz2 (.int .i64 bl) (.int .i64 sp) <| gze (fun v w' => ∃ g S, v = .pointer (some ⟨g, 0, none⟩) ∧ RepQ w' g S bl sp [] ∧ (∀ k, S k → V3.heap.size ≤ k) ∧ Below V3.heap.size V3 w') (CN.mono fun e w' z => by obtain ⟨g, S, z1, z2⟩ := z; exact ⟨_, z1, g, S, rfl, z2⟩) (fun vv U1 hq => ?_)
   obtain ⟨g0, S0, rfl, hr0, hso, hb1⟩ := hq
   obtain ⟨B, hB⟩ : ∃ B, V3.heap.size = B := ⟨_, rfl⟩
   have HPS0 : Hid (PS w gn a c L B g0 S0 bl sp [] [] none 0 (0 + 1 + 1 + 1) U1) := Lib.hid ⟨HB3.out.trans (hb1.mono HB3.out.size), HGN.out.1, by rw [← hB]; exact HNM3.out.lt, by rw [← hB]; exact hb1.size, HNM3.out.below hb1, hr0, fun k hk => by rw [← hB]; exact hso k hk, Cs.nil _ _, Nat.le_refl 0, fun k hk => (hk.1 rfl).elim⟩
   clear hr0 hso hb1 CN HNM3 HB3 hB
   simp only [pu]
   refine gz1 (.pointer (some ⟨g0, 0, none⟩)) <| wn ?_
   simp only [pu]
   go_upto_region 7 with fail
   refine wl <| gz2 (.pointer (some ⟨g0, 0, none⟩)) (.bool false) <| wn ?_
   simp only [pu]
   go_upto_region 9 with fail
   refine wl <| gz1 (.slice none 0 0) <| wn ?_
   simp only [pu]
   go_wp2_with fail
   go_loopg [9] L.length (fun gg s9 wx => ∃ (N : Nat) (S : Nat → Prop) (m : List Wt) (al : Option Addr) (cm : Nat), s9 = .slice al m.length cm ∧ L.length - N ≤ gg ∧ Hid (N ≤ 170) ∧ Hid (m.length ≤ N) ∧ Hid (PS w gn a c L B g0 S bl sp m m al cm N wx))
   case atStart => exact ⟨(0 + 1 + 1 + 1), S0, [], none, 0, rfl, by omega, Lib.hid (by decide), Lib.hid (Nat.zero_le _), HPS0⟩
   case round =>
    obtain ⟨N, S, m, al, cm, rfl, hg, HNN, HMN, HPS⟩ := hrel
    clear HPS0
    have HGK := Lib.hid hg
    obtain ⟨ml, hml⟩ : ∃ k, m.length = k := ⟨_, rfl⟩
    have HML := Lib.hid hml
    have HMB : Hid (ml ≤ 180) := Lib.hid (by have := HMN.out; have := HNN.out; omega)
    rw [hml]
    clear hg hml
    by_cases hlt : N < L.length
    ·skip
     go_upto_region 10 with fail
     refine wl <| gz3 (.pointer (some ⟨gn, 0, none⟩)) (.pointer (some ⟨gn, 0, none⟩)) (.pointer (some ⟨gn, 1, none⟩)) <| gzl rfl ⟨gn, 1, none⟩ (.int .i64 N) (HPS.out.nm.1.load (i := 1) rfl (by kernel_rfl)) <| gz2 (.slice a L.length c) (.int .i64 L.length) <|
      gzb (lss_n rfl (N) (L.length) dT) <| wn ?_
     simp only [pu]
     go_upto_region 11 with fail
     refine wl <| gz1 (.pointer (some ⟨gn, 0, none⟩)) <| gze (fun v w' => ∃ q : Nat, v = .int .i64 q ∧ (q : Int) < 9 ∧ Nm w' gn a c L (N + 1) ∧ But gn wr w') (nx2 HPS.out.nm HL.out (by have := HNN.out; omega) 9 (by decide) (by decide)) (fun vv V2 hq => ?_)
     obtain ⟨v2, rfl, hv2, hns2, hbt2⟩ := hq
     have HP2 := Lib.hid (HPS.out.num hns2 hbt2)
     clear hns2 hbt2 HPS
     simp only [pu]
     refine gzw (.int .i64 ((v2 : Int) - 2)) (sub_i rfl v2 2 (by omega)) <| gz1 (.int .i64 ((v2 : Int) - 2)) <| wn ?_
     simp only [pu]
     obtain ⟨id, hid⟩ : ∃ i : Int, (v2 : Int) - 2 = i := ⟨_, rfl⟩
     rw [hid]
     clear hid hv2
     go_upto_region 12 with fail
     refine wl <| gz1 (.pointer (some ⟨gn, 0, none⟩)) <| gze (fun v w' => ∃ q : Nat, v = .int .i64 q ∧ (q : Int) < 5 ∧ Nm w' gn a c L ((N + 1) + 1) ∧ But gn V2 w') (nx2 HP2.out.nm HL.out (by have := HNN.out; omega) 5 (by decide) (by decide)) (fun vv V3 hq => ?_)
     obtain ⟨v3, rfl, hv3, hns3, hbt3⟩ := hq
     have HP3 := Lib.hid (HP2.out.num hns3 hbt3)
     clear hns3 hbt3 HP2
     simp only [pu]
     apply wpList_nil
     clear hv3
     by_cases hs0 : v3 = 0
     ·skip
      go_upto_region 18 with fail
      refine wl <| gzb (eql_nn rfl v3 0 (decide_eq_true hs0)) <| gz1 (.bool true) <| wn ?_
      simp only [pu]
      clear hs0
      have CRR := r_rem HP3.out.rw HP3.out.rl (by rw [HML.out]; have := HMB.out; omega) id
      rw [HML.out] at CRR
      go_upto_region 19 with fail
      refine wl <| gz2 (.slice al ml cm) (.int .i64 id) <|
       gze (fun v w' => ∃ a2 c2, v = .tuple #[.slice a2 (remW id m).length c2, .bool (hasW m id)] ∧ PS w gn a c L B g0 S bl sp m (remW id m) a2 c2 (N + 1 + 1) w') (CRR.mono fun e w' z => by obtain ⟨a2, c2, z1, z2⟩ := HP3.out.ref z; exact ⟨_, z1, a2, c2, rfl, z2⟩) (fun vv V5 hq => ?_)
      obtain ⟨a2, c2, rfl, hp5⟩ := hq
      obtain ⟨k2, hk2⟩ : ∃ k, (remW id m).length = k := ⟨_, rfl⟩
      have HK2 := Lib.hid hk2
      rw [hk2]
      have CR := q_rem hp5.rep (by rw [HML.out]; have := HMB.out; omega) id hp5.so hp5.bz
      have HP5 := Lib.hid hp5
      clear hp5 hk2 CRR HP3
      simp only [pu]
      refine gz5 (.tuple #[.slice a2 k2 c2, .bool (hasW m id)]) (.slice a2 k2 c2) (.bool (hasW m id)) (.slice a2 k2 c2) (.bool (hasW m id)) <| wn ?_
      simp only [pu]
      go_upto_region 20 with fail
      refine wl <| gz2 (.pointer (some ⟨g0, 0, none⟩)) (.int .i64 id) <| gzc (.bool (hasW m id)) (fun w' => UpdQ g0 B S bl sp (remW id m) V5 w') CR (fun V6 hu => ?_)
      obtain ⟨S2, hp6⟩ := HP5.out.prog hu
      have HP6 := Lib.hid hp6
      clear hu hp6 CR HP5
      simp only [pu]
      refine gz1 (.bool (hasW m id)) <| gzw (.bool false) (neq_b rfl (hasW m id)) <| wn ?_
      simp only [pu]
      go_upto_region 22 with fail
      refine wl <| gz2 (.slice a2 k2 c2) (.slice a2 k2 c2) <| wn ?_
      simp only [pu]
      have HMN2 : Hid ((remW id m).length ≤ N + 1 + 1) := Lib.hid (by have := HMN.out; have := rem_le id m; omega)
      have CLN := q_len HP6.out.rep
      rw [HK2.out] at CLN
      go_upto_region 27 with fail
      refine wl <| gz1 (.pointer (some ⟨g0, 0, none⟩)) <| gzc (.int .i64 k2) (fun w' => V6 = w') (CLN) (fun V9 hV9 => ?_)
      subst hV9
      simp only [pu]
      refine gz2 (.slice a2 k2 c2) (.int .i64 k2) <| gzb (neq_n rfl k2 k2 (decide_eq_false (fun h => h rfl))) <| wn ?_
      simp only [pu]
      clear CLN
      go_wp2_with fail
      go_roundg (L.length - (N + 1 + 1))
      case measure => have := HGK.out; omega
      case rel => exact ⟨(N + 1 + 1), _, (remW id m), a2, c2, by rw [HK2.out], Nat.le_refl _, Lib.hid (by have := HLL.out; omega), HMN2, HP6⟩
     ·skip
      go_upto_region 18 with fail
      refine wl <| gzb (eql_nn rfl v3 0 (decide_eq_false hs0)) <| gz1 (.bool false) <| wn ?_
      simp only [pu]
      by_cases hs1 : v3 = 1
      ·skip
       go_upto_region 23 with fail
       refine wl <| gzb (eql_nn rfl v3 1 (decide_eq_true hs1)) <| gz1 (.bool true) <| wn ?_
       simp only [pu]
       clear hs0 hs1
       go_upto_region 24 with fail
       refine wl <| gz1 (.pointer (some ⟨gn, 0, none⟩)) <|
        gze (fun v w' => ∃ (q : Int) (N' : Nat), v = .int .i64 q ∧ I64 q ∧ (N + 1 + 1) < N' ∧ N' ≤ (N + 1 + 1) + 2 ∧ Nm w' gn a c L N' ∧ But gn V3 w') ((mk_number HP3.out.nm HL.out (by have := HNN.out; omega)).mono fun e w' z => by obtain ⟨q, N', z1, z2⟩ := z; exact ⟨_, z1, q, N', rfl, z2⟩) (fun vv V4 hq => ?_)
       obtain ⟨q4, N4, rfl, hi4, hlo4, hhi4, hns4, hbt4⟩ := hq
       have HP4 := Lib.hid (HP3.out.num hns4 hbt4)
       have HQ4 := Lib.hid hi4
       have HN4 : Hid ((N + 1 + 1) < N4 ∧ N4 ≤ (N + 1 + 1) + 2) := Lib.hid ⟨hlo4, hhi4⟩
       clear hi4 hlo4 hhi4 hns4 hbt4 HP3
       simp only [pu]
       refine gz1 (.pointer (some ⟨gn, 0, none⟩)) <|
        gze (fun v w' => ∃ (q : Int) (N' : Nat), v = .int .i64 q ∧ I64 q ∧ N4 < N' ∧ N' ≤ N4 + 2 ∧ Nm w' gn a c L N' ∧ But gn V4 w') ((mk_number HP4.out.nm HL.out (by have := HNN.out; have := HN4.out; omega)).mono fun e w' z => by obtain ⟨q, N', z1, z2⟩ := z; exact ⟨_, z1, q, N', rfl, z2⟩) (fun vv V5 hq => ?_)
       obtain ⟨q5, N5, rfl, hi5, hlo5, hhi5, hns5, hbt5⟩ := hq
       have HP5 := Lib.hid (HP4.out.num hns5 hbt5)
       have HQ5 := Lib.hid hi5
       have HN5 : Hid (N4 < N5 ∧ N5 ≤ N4 + 2) := Lib.hid ⟨hlo5, hhi5⟩
       clear hi5 hlo5 hhi5 hns5 hbt5 HP4
       simp only [pu]
       refine gz2 (.int .i64 q4) (.int .i64 q5) <| wn ?_
       simp only [pu]
       go_upto_region 25 with fail
       have CE := q_exp HP5.out.rep (by rw [HML.out]; have := HMB.out; omega) HBL.out HSP.out (h := q4) (t := q5) HQ4.out HQ5.out
       have hEL := expW_len m bl sp (q4) (q5)
       obtain ⟨R, hR⟩ : ∃ R, expW m bl sp (q4) (q5) = R := ⟨_, rfl⟩
       rw [hR] at CE hEL
       rw [HML.out] at hEL
       obtain ⟨k1, hk1⟩ : ∃ k, R.length = k := ⟨_, rfl⟩
       have hk1b : k1 ≤ 200 := by have := HMB.out; omega
       clear hEL
       refine wl <| gz3 (.pointer (some ⟨g0, 0, none⟩)) (.int .i64 q4) (.int .i64 q5) <| gze (fun v w' => ∃ a c, v = .slice a (List.length R) c ∧ Cs w' a (icells R) ∧ List.length R ≤ c ∧ Below V5.heap.size V5 w') (CE.mono fun e w' z => z.cs) (fun vv X1 hq => ?_)
       obtain ⟨a1, c1, rfl, hc1, hlc1, hbX1⟩ := hq
       rw [hk1] at hlc1 ⊢
       have HP1 := Lib.hid (HP5.out.below hbX1)
       have CRE := r_exp (c := cm) HP1.out.rw (by rw [HML.out]; have := HMB.out; omega) HP1.out.rep.iw HBL.out HSP.out (h := q4) (t := q5) HQ4.out HQ5.out
       rw [HML.out, hR] at CRE
       simp only [pu]
       refine gz5 (.slice al ml cm) (.int .i64 bl) (.int .i64 sp) (.int .i64 q4) (.int .i64 q5) <| gze (fun v w' => ∃ a c, v = .slice a (List.length R) c ∧ Cs w' a (icells R) ∧ List.length R ≤ c ∧ Below X1.heap.size X1 w') (CRE.mono fun e w' z => z.cs) (fun vv X2 hq => ?_)
       obtain ⟨a2, c2, rfl, hc2, hlc2, hbX2⟩ := hq
       rw [hk1] at hlc2 ⊢
       have HP2 := Lib.hid (HP1.out.below hbX2)
       have CST := same_ints (c := c1) (c2 := c2) (hc1.below hbX2) hc2 (by omega)
       rw [hk1] at CST
       simp only [pu]
       refine gzc (.bool true) (fun w' => Below X2.heap.size X2 w') (CST) (fun V6 hbZ => ?_)
       have HP6 := Lib.hid (HP2.out.below hbZ)
       clear hbX1 hbX2 hbZ hc1 hc2 hlc1 hlc2 CRE CE CST HP1 HP2 HP5 hk1 hk1b hR
       simp only [pu]
       refine gz1 (.bool false) <| wn ?_
       simp only [pu]
       have HK2 := HML
       have HMN2 : Hid (m.length ≤ N5) := Lib.hid (by have := HMN.out; have := HN4.out; have := HN5.out; omega)
       have CLN := q_len HP6.out.rep
       rw [HK2.out] at CLN
       go_upto_region 27 with fail
       refine wl <| gz1 (.pointer (some ⟨g0, 0, none⟩)) <| gzc (.int .i64 ml) (fun w' => V6 = w') (CLN) (fun V9 hV9 => ?_)
       subst hV9
       simp only [pu]
       refine gz2 (.slice al ml cm) (.int .i64 ml) <| gzb (neq_n rfl ml ml (decide_eq_false (fun h => h rfl))) <| wn ?_
       simp only [pu]
       clear CLN
       go_wp2_with fail
       go_roundg (L.length - N5)
       case measure => have := HGK.out; have := HN4.out; have := HN5.out; omega
       case rel => exact ⟨N5, _, m, al, cm, by rw [HK2.out], Nat.le_refl _, Lib.hid (by have := HLL.out; have := HN4.out; have := HN5.out; omega), HMN2, HP6⟩
      ·skip
       go_upto_region 23 with fail
       refine wl <| gzb (eql_nn rfl v3 1 (decide_eq_false hs1)) <| gz1 (.bool false) <| wn ?_
       simp only [pu]
       clear hs0 hs1
       go_upto_region 13 with fail
       refine wl <| gz2 (.int .i64 id) (.pointer (some ⟨gn, 0, none⟩)) <|
        gze (fun v w' => ∃ (q : Int) (N' : Nat), v = .int .i64 q ∧ I64 q ∧ (N + 1 + 1) < N' ∧ N' ≤ (N + 1 + 1) + 2 ∧ Nm w' gn a c L N' ∧ But gn V3 w') ((mk_number HP3.out.nm HL.out (by have := HNN.out; omega)).mono fun e w' z => by obtain ⟨q, N', z1, z2⟩ := z; exact ⟨_, z1, q, N', rfl, z2⟩) (fun vv V4 hq => ?_)
       obtain ⟨q4, N4, rfl, hi4, hlo4, hhi4, hns4, hbt4⟩ := hq
       have HP4 := Lib.hid (HP3.out.num hns4 hbt4)
       have HQ4 := Lib.hid hi4
       have HN4 : Hid ((N + 1 + 1) < N4 ∧ N4 ≤ (N + 1 + 1) + 2) := Lib.hid ⟨hlo4, hhi4⟩
       clear hi4 hlo4 hhi4 hns4 hbt4 HP3
       simp only [pu]
       refine gz1 (.pointer (some ⟨gn, 0, none⟩)) <|
        gze (fun v w' => ∃ (q : Int) (N' : Nat), v = .int .i64 q ∧ I64 q ∧ N4 < N' ∧ N' ≤ N4 + 2 ∧ Nm w' gn a c L N' ∧ But gn V4 w') ((mk_number HP4.out.nm HL.out (by have := HNN.out; have := HN4.out; omega)).mono fun e w' z => by obtain ⟨q, N', z1, z2⟩ := z; exact ⟨_, z1, q, N', rfl, z2⟩) (fun vv V5 hq => ?_)
       obtain ⟨q5, N5, rfl, hi5, hlo5, hhi5, hns5, hbt5⟩ := hq
       have HP5 := Lib.hid (HP4.out.num hns5 hbt5)
       have HQ5 := Lib.hid hi5
       have HN5 : Hid (N4 < N5 ∧ N5 ≤ N4 + 2) := Lib.hid ⟨hlo5, hhi5⟩
       clear hi5 hlo5 hhi5 hns5 hbt5 HP4
       obtain ⟨V6, hst6, hb6, hX6⟩ := new_bx (c := wtA zwt) (c' := wtA (id, q4, q5)) (ty := 41) V5 rfl (wtA_one _) (by kernel_rfl)
       have HP6 := Lib.hid (HP5.out.below hb6)
       clear hb6 HP5
       simp only [pu]
       refine gz1 (.agg (wtA (id, q4, q5))) ?_
       simp only [pu]
       refine run_to rfl (some 15) rfl (.pointer (some ⟨V5.heap.size, 0, none⟩)) (V5.alloc (.cells (wtA zwt) 41)) (by kernel_rfl) ?_
       simp only [pu]
       refine gzs rfl (hst6) <| wn ?_
       obtain ⟨gx, hgx⟩ : ∃ g, V5.heap.size = g := ⟨_, rfl⟩
       rw [hgx] at hX6 ⊢
       clear hst6 hgx
       have CRA := r_add HP6.out.rw HP6.out.rl (by rw [HML.out]; have := HMB.out; omega) (id, q4, q5)
       rw [HML.out] at CRA
       go_upto_region 14 with fail
       refine wl <| gz1 (.slice al ml cm) <| gzl rfl ⟨gx, 0, none⟩ (.agg (wtA (id, q4, q5))) (load_wtb hX6) <|
        gze (fun v w' => ∃ a2 c2, v = .tuple #[.slice a2 (addW m (id, q4, q5)).length c2, .bool (!hasW m id)] ∧ PS w gn a c L B g0 S bl sp m (addW m (id, q4, q5)) a2 c2 N5 w' ∧ Below V6.heap.size V6 w') (CRA.mono fun e w' z => by have hbb := z; obtain ⟨-, -, -, -, -, -, hb9⟩ := hbb; obtain ⟨a2, c2, z1, z2⟩ := HP6.out.ref z; exact ⟨_, z1, a2, c2, rfl, z2, hb9⟩) (fun vv V7 hq => ?_)
       obtain ⟨a2, c2, rfl, hp7, hb7⟩ := hq
       obtain ⟨k2, hk2⟩ : ∃ k, (addW m (id, q4, q5)).length = k := ⟨_, rfl⟩
       have HK2 := Lib.hid hk2
       rw [hk2]
       have CA := q_add hp7.rep (by rw [HML.out]; have := HMB.out; omega) id q4 q5 HQ4.out HQ5.out hp7.so hp7.bz
       have hX7 := hX6.below hX6.lt hb7
       have HP7 := Lib.hid hp7
       clear hp7 hk2 CRA HP6 hb7 hX6
       simp only [pu]
       refine gz5 (.tuple #[.slice a2 k2 c2, .bool (!hasW m id)]) (.slice a2 k2 c2) (.bool (!hasW m id)) (.slice a2 k2 c2) (.bool (!hasW m id)) <| wn ?_
       simp only [pu]
       go_upto_region 15 with fail
       refine wl <| gz2 (.pointer (some ⟨g0, 0, none⟩)) (.pointer (some ⟨gx, 0, none⟩)) <| gzl rfl ⟨gx, 0, none⟩ (.int .i64 id) (hX7.load (i := 0) rfl (by kernel_rfl)) <| gz1 (.pointer (some ⟨gx, 1, none⟩)) <|
        gzl rfl ⟨gx, 1, none⟩ (.int .i64 q4) (hX7.load (i := 1) rfl (by kernel_rfl)) <| gz1 (.pointer (some ⟨gx, 2, none⟩)) <| gzl rfl ⟨gx, 2, none⟩ (.int .i64 q5) (hX7.load (i := 2) rfl (by kernel_rfl)) <| gzc (.bool (!hasW m id)) (fun w' => UpdQ g0 B S bl sp (addW m (id, q4, q5)) V7 w') CA (fun V8 hu => ?_)
       obtain ⟨S2, hp8⟩ := HP7.out.prog hu
       have HP8 := Lib.hid hp8
       clear hu hp8 CA HP7
       simp only [pu]
       refine gz1 (.bool (!hasW m id)) <| gzw (.bool false) (neq_b rfl (!hasW m id)) <| wn ?_
       simp only [pu]
       clear hX7
       go_upto_region 17 with fail
       refine wl <| gz2 (.slice a2 k2 c2) (.slice a2 k2 c2) <| wn ?_
       simp only [pu]
       have HMN2 : Hid ((addW m (id, q4, q5)).length ≤ N5) := Lib.hid (by have := HMN.out; have := add_le m (id, q4, q5); have := HN4.out; have := HN5.out; omega)
       have CLN := q_len HP8.out.rep
       rw [HK2.out] at CLN
       go_upto_region 27 with fail
       refine wl <| gz1 (.pointer (some ⟨g0, 0, none⟩)) <| gzc (.int .i64 k2) (fun w' => V8 = w') (CLN) (fun V9 hV9 => ?_)
       subst hV9
       simp only [pu]
       refine gz2 (.slice a2 k2 c2) (.int .i64 k2) <| gzb (neq_n rfl k2 k2 (decide_eq_false (fun h => h rfl))) <| wn ?_
       simp only [pu]
       clear CLN
       go_wp2_with fail
       go_roundg (L.length - N5)
       case measure => have := HGK.out; have := HN4.out; have := HN5.out; omega
       case rel => exact ⟨N5, _, (addW m (id, q4, q5)), a2, c2, by rw [HK2.out], Nat.le_refl _, Lib.hid (by have := HLL.out; have := HN4.out; have := HN5.out; omega), HMN2, HP8⟩
    ·skip
     go_upto_region 10 with fail
     refine wl <| gz3 (.pointer (some ⟨gn, 0, none⟩)) (.pointer (some ⟨gn, 0, none⟩)) (.pointer (some ⟨gn, 1, none⟩)) <| gzl rfl ⟨gn, 1, none⟩ (.int .i64 N) (HPS.out.nm.1.load (i := 1) rfl (by kernel_rfl)) <| gz2 (.slice a L.length c) (.int .i64 L.length) <|
      gzb (lss_n rfl (N) (L.length) dF) <| wn ?_
     simp only [pu]
     go_upto_region 29 with fail
     refine wl <| gz1 (.int .i64 (-1)) <| wn ?_
     simp only [pu]
     have HH0 : Hid ((-1 : Int) = 2 * ((0 : Nat) : Int) - 1) := Lib.hid (by omega)
     go_wp2_with fail
     go_loopg [18] 8 (fun gg s18 wx => ∃ (j : Nat) (h : Int), s18 = .int .i64 h ∧ j ≤ 8 ∧ gg + j = 8 ∧ Hid (h = 2 * (j : Int) - 1) ∧ Hid (PS w gn a c L B g0 S bl sp m m al cm N wx))
     case atStart => exact ⟨0, -1, rfl, by omega, by omega, HH0, HPS⟩
     case round =>
      obtain ⟨j, h, rfl, hj8, hg2, HH, HPW⟩ := hrel
      have HG2 := Lib.hid hg2
      have HJ8 := Lib.hid hj8
      clear hg2 HPS HH0 hj8
      by_cases hlj : j < 8
      ·skip
       have hhe := HH.out
       have HIh : Hid (I64 h ∧ I64 (h + 1) ∧ -1 ≤ h ∧ h ≤ 13) := Lib.hid ⟨⟨by omega, by omega⟩, ⟨by omega, by omega⟩, by omega, by omega⟩
       have hh14 : h < 14 := by omega
       clear hhe
       go_upto_region 30 with fail
       refine wl <| gz1 (.int .i64 h) <| gzb (lss_n rfl h 14 (decide_eq_true hh14)) <| wn ?_
       simp only [pu]
       clear hh14
       go_upto_region 32 with fail
       have CE := q_exp HPW.out.rep (by rw [HML.out]; have := HMB.out; omega) HBL.out HSP.out (h := h) (t := h + 1) HIh.out.1 HIh.out.2.1
       have hEL := expW_len m bl sp (h) (h + 1)
       obtain ⟨R, hR⟩ : ∃ R, expW m bl sp (h) (h + 1) = R := ⟨_, rfl⟩
       rw [hR] at CE hEL
       rw [HML.out] at hEL
       obtain ⟨k1, hk1⟩ : ∃ k, R.length = k := ⟨_, rfl⟩
       have hk1b : k1 ≤ 200 := by have := HMB.out; omega
       clear hEL
       refine wl <| gz3 (.pointer (some ⟨g0, 0, none⟩)) (.int .i64 h) (.int .i64 h) <| gzw (.int .i64 (h + 1)) (add_i rfl h 1 (by have := HIh.out; omega)) <|
        gze (fun v w' => ∃ a c, v = .slice a (List.length R) c ∧ Cs w' a (icells R) ∧ List.length R ≤ c ∧ Below wr.heap.size wr w') (CE.mono fun e w' z => z.cs) (fun vv X1 hq => ?_)
       obtain ⟨a1, c1, rfl, hc1, hlc1, hbX1⟩ := hq
       rw [hk1] at hlc1 ⊢
       have HP1 := Lib.hid (HPW.out.below hbX1)
       have CRE := r_exp (c := cm) HP1.out.rw (by rw [HML.out]; have := HMB.out; omega) HP1.out.rep.iw HBL.out HSP.out (h := h) (t := h + 1) HIh.out.1 HIh.out.2.1
       rw [HML.out, hR] at CRE
       simp only [pu]
       refine gz5 (.slice al ml cm) (.int .i64 bl) (.int .i64 sp) (.int .i64 h) (.int .i64 h) <| gzw (.int .i64 (h + 1)) (add_i rfl h 1 (by have := HIh.out; omega)) <|
        gze (fun v w' => ∃ a c, v = .slice a (List.length R) c ∧ Cs w' a (icells R) ∧ List.length R ≤ c ∧ Below X1.heap.size X1 w') (CRE.mono fun e w' z => z.cs) (fun vv X2 hq => ?_)
       obtain ⟨a2, c2, rfl, hc2, hlc2, hbX2⟩ := hq
       rw [hk1] at hlc2 ⊢
       have HP2 := Lib.hid (HP1.out.below hbX2)
       have CST := same_ints (c := c1) (c2 := c2) (hc1.below hbX2) hc2 (by omega)
       rw [hk1] at CST
       simp only [pu]
       refine gzc (.bool true) (fun w' => Below X2.heap.size X2 w') (CST) (fun V6 hbZ => ?_)
       have HP6 := Lib.hid (HP2.out.below hbZ)
       clear hbX1 hbX2 hbZ hc1 hc2 hlc1 hlc2 CRE CE CST HP1 HP2 HPW hk1 hk1b hR
       simp only [pu]
       refine gz1 (.bool false) <| wn ?_
       simp only [pu]
       go_upto_region 31 with fail
       refine wl <| gz1 (.int .i64 h) <| gzw (.int .i64 (h + 2)) (add_i rfl h 2 (by have := HIh.out; omega)) <| gz1 (.int .i64 (h + 2)) <| wn ?_
       simp only [pu]
       go_wp2_with fail
       go_roundg (8 - (j + 1))
       case measure => have := HG2.out; omega
       case rel => exact ⟨j + 1, h + 2, rfl, by omega, by omega, Lib.hid (by have := HH.out; omega), HP6⟩
      ·skip
       have hh14 : ¬ h < 14 := by have := HH.out; omega
       go_upto_region 30 with fail
       refine wl <| gz1 (.int .i64 h) <| gzb (lss_n rfl h 14 (decide_eq_false hh14)) <| wn ?_
       simp only [pu]
       clear hh14
       have HBK := Lib.hid HPW.out.bel
       clear HPW
       have CK := known_true wr
       go_upto_region 34 with fail
       refine wl <| gzc (.bool true) (fun w' => Below wr.heap.size wr w') (CK) (fun V8 hV8 => ?_)
       simp only [pu]
       refine gz1 (.bool true) <| wn ?_
       simp only [pu]
       have HE := HBK.out.trans (hV8.mono HBK.out.size)
       go_wp2_with fail
       go_ret
       exact ⟨rfl, HE⟩
  ·skip
   refine gzb (gtr_n rfl v1 0 dF) <| wn ?_
   simp only [pu]
   clear h4 hv1
   have HBL := HI1
   have HSP := HI2
   have CN := q_new bl sp V1
   go_upto_region 6 with fail
   refine wl <| gz2 (.int .i64 bl) (.int .i64 sp) <| gze (fun v w' => ∃ g S, v = .pointer (some ⟨g, 0, none⟩) ∧ RepQ w' g S bl sp [] ∧ (∀ k, S k → V1.heap.size ≤ k) ∧ Below V1.heap.size V1 w') (CN.mono fun e w' z => by obtain ⟨g, S, z1, z2⟩ := z; exact ⟨_, z1, g, S, rfl, z2⟩) (fun vv U1 hq => ?_)
   obtain ⟨g0, S0, rfl, hr0, hso, hb1⟩ := hq
   obtain ⟨B, hB⟩ : ∃ B, V1.heap.size = B := ⟨_, rfl⟩
   have HPS0 : Hid (PS w gn a c L B g0 S0 bl sp [] [] none 0 (0 + 1) U1) := Lib.hid ⟨HB1.out.trans (hb1.mono HB1.out.size), HGN.out.1, by rw [← hB]; exact HNM1.out.lt, by rw [← hB]; exact hb1.size, HNM1.out.below hb1, hr0, fun k hk => by rw [← hB]; exact hso k hk, Cs.nil _ _, Nat.le_refl 0, fun k hk => (hk.1 rfl).elim⟩
   clear hr0 hso hb1 CN HNM1 HB1 hB
   simp only [pu]
   refine gz1 (.pointer (some ⟨g0, 0, none⟩)) <| wn ?_
   simp only [pu]
   go_upto_region 7 with fail
   refine wl <| gz2 (.pointer (some ⟨g0, 0, none⟩)) (.bool false) <| wn ?_
   simp only [pu]
   go_upto_region 9 with fail
   refine wl <| gz1 (.slice none 0 0) <| wn ?_
   simp only [pu]
   go_wp2_with fail
   go_loopg [9] L.length (fun gg s9 wx => ∃ (N : Nat) (S : Nat → Prop) (m : List Wt) (al : Option Addr) (cm : Nat), s9 = .slice al m.length cm ∧ L.length - N ≤ gg ∧ Hid (N ≤ 170) ∧ Hid (m.length ≤ N) ∧ Hid (PS w gn a c L B g0 S bl sp m m al cm N wx))
   case atStart => exact ⟨(0 + 1), S0, [], none, 0, rfl, by omega, Lib.hid (by decide), Lib.hid (Nat.zero_le _), HPS0⟩
   case round =>
    obtain ⟨N, S, m, al, cm, rfl, hg, HNN, HMN, HPS⟩ := hrel
    clear HPS0
    have HGK := Lib.hid hg
    obtain ⟨ml, hml⟩ : ∃ k, m.length = k := ⟨_, rfl⟩
    have HML := Lib.hid hml
    have HMB : Hid (ml ≤ 180) := Lib.hid (by have := HMN.out; have := HNN.out; omega)
    rw [hml]
    clear hg hml
    by_cases hlt : N < L.length
    ·skip
     go_upto_region 10 with fail
     refine wl <| gz3 (.pointer (some ⟨gn, 0, none⟩)) (.pointer (some ⟨gn, 0, none⟩)) (.pointer (some ⟨gn, 1, none⟩)) <| gzl rfl ⟨gn, 1, none⟩ (.int .i64 N) (HPS.out.nm.1.load (i := 1) rfl (by kernel_rfl)) <| gz2 (.slice a L.length c) (.int .i64 L.length) <|
      gzb (lss_n rfl (N) (L.length) dT) <| wn ?_
     simp only [pu]
     go_upto_region 11 with fail
     refine wl <| gz1 (.pointer (some ⟨gn, 0, none⟩)) <| gze (fun v w' => ∃ q : Nat, v = .int .i64 q ∧ (q : Int) < 9 ∧ Nm w' gn a c L (N + 1) ∧ But gn wr w') (nx2 HPS.out.nm HL.out (by have := HNN.out; omega) 9 (by decide) (by decide)) (fun vv V2 hq => ?_)
     obtain ⟨v2, rfl, hv2, hns2, hbt2⟩ := hq
     have HP2 := Lib.hid (HPS.out.num hns2 hbt2)
     clear hns2 hbt2 HPS
     simp only [pu]
     refine gzw (.int .i64 ((v2 : Int) - 2)) (sub_i rfl v2 2 (by omega)) <| gz1 (.int .i64 ((v2 : Int) - 2)) <| wn ?_
     simp only [pu]
     obtain ⟨id, hid⟩ : ∃ i : Int, (v2 : Int) - 2 = i := ⟨_, rfl⟩
     rw [hid]
     clear hid hv2
     go_upto_region 12 with fail
     refine wl <| gz1 (.pointer (some ⟨gn, 0, none⟩)) <| gze (fun v w' => ∃ q : Nat, v = .int .i64 q ∧ (q : Int) < 5 ∧ Nm w' gn a c L ((N + 1) + 1) ∧ But gn V2 w') (nx2 HP2.out.nm HL.out (by have := HNN.out; omega) 5 (by decide) (by decide)) (fun vv V3 hq => ?_)
     obtain ⟨v3, rfl, hv3, hns3, hbt3⟩ := hq
     have HP3 := Lib.hid (HP2.out.num hns3 hbt3)
     clear hns3 hbt3 HP2
     simp only [pu]
     apply wpList_nil
     clear hv3
     by_cases hs0 : v3 = 0
     ·skip
      go_upto_region 18 with fail
      refine wl <| gzb (eql_nn rfl v3 0 (decide_eq_true hs0)) <| gz1 (.bool true) <| wn ?_
      simp only [pu]
      clear hs0
      have CRR := r_rem HP3.out.rw HP3.out.rl (by rw [HML.out]; have := HMB.out; omega) id
      rw [HML.out] at CRR
      go_upto_region 19 with fail
      refine wl <| gz2 (.slice al ml cm) (.int .i64 id) <|
       gze (fun v w' => ∃ a2 c2, v = .tuple #[.slice a2 (remW id m).length c2, .bool (hasW m id)] ∧ PS w gn a c L B g0 S bl sp m (remW id m) a2 c2 (N + 1 + 1) w') (CRR.mono fun e w' z => by obtain ⟨a2, c2, z1, z2⟩ := HP3.out.ref z; exact ⟨_, z1, a2, c2, rfl, z2⟩) (fun vv V5 hq => ?_)
      obtain ⟨a2, c2, rfl, hp5⟩ := hq
      obtain ⟨k2, hk2⟩ : ∃ k, (remW id m).length = k := ⟨_, rfl⟩
      have HK2 := Lib.hid hk2
      rw [hk2]
      have CR := q_rem hp5.rep (by rw [HML.out]; have := HMB.out; omega) id hp5.so hp5.bz
      have HP5 := Lib.hid hp5
      clear hp5 hk2 CRR HP3
      simp only [pu]
      refine gz5 (.tuple #[.slice a2 k2 c2, .bool (hasW m id)]) (.slice a2 k2 c2) (.bool (hasW m id)) (.slice a2 k2 c2) (.bool (hasW m id)) <| wn ?_
      simp only [pu]
      go_upto_region 20 with fail
      refine wl <| gz2 (.pointer (some ⟨g0, 0, none⟩)) (.int .i64 id) <| gzc (.bool (hasW m id)) (fun w' => UpdQ g0 B S bl sp (remW id m) V5 w') CR (fun V6 hu => ?_)
      obtain ⟨S2, hp6⟩ := HP5.out.prog hu
      have HP6 := Lib.hid hp6
      clear hu hp6 CR HP5
      simp only [pu]
      refine gz1 (.bool (hasW m id)) <| gzw (.bool false) (neq_b rfl (hasW m id)) <| wn ?_
      simp only [pu]
      go_upto_region 22 with fail
      refine wl <| gz2 (.slice a2 k2 c2) (.slice a2 k2 c2) <| wn ?_
      simp only [pu]
      have HMN2 : Hid ((remW id m).length ≤ N + 1 + 1) := Lib.hid (by have := HMN.out; have := rem_le id m; omega)
      have CLN := q_len HP6.out.rep
      rw [HK2.out] at CLN
      go_upto_region 27 with fail
      refine wl <| gz1 (.pointer (some ⟨g0, 0, none⟩)) <| gzc (.int .i64 k2) (fun w' => V6 = w') (CLN) (fun V9 hV9 => ?_)
      subst hV9
      simp only [pu]
      refine gz2 (.slice a2 k2 c2) (.int .i64 k2) <| gzb (neq_n rfl k2 k2 (decide_eq_false (fun h => h rfl))) <| wn ?_
      simp only [pu]
      clear CLN
      go_wp2_with fail
      go_roundg (L.length - (N + 1 + 1))
      case measure => have := HGK.out; omega
      case rel => exact ⟨(N + 1 + 1), _, (remW id m), a2, c2, by rw [HK2.out], Nat.le_refl _, Lib.hid (by have := HLL.out; omega), HMN2, HP6⟩
     ·skip
      go_upto_region 18 with fail
      refine wl <| gzb (eql_nn rfl v3 0 (decide_eq_false hs0)) <| gz1 (.bool false) <| wn ?_
      simp only [pu]
      by_cases hs1 : v3 = 1
      ·skip
       go_upto_region 23 with fail
       refine wl <| gzb (eql_nn rfl v3 1 (decide_eq_true hs1)) <| gz1 (.bool true) <| wn ?_
       simp only [pu]
       clear hs0 hs1
       go_upto_region 24 with fail
       refine wl <| gz1 (.pointer (some ⟨gn, 0, none⟩)) <|
        gze (fun v w' => ∃ (q : Int) (N' : Nat), v = .int .i64 q ∧ I64 q ∧ (N + 1 + 1) < N' ∧ N' ≤ (N + 1 + 1) + 2 ∧ Nm w' gn a c L N' ∧ But gn V3 w') ((mk_number HP3.out.nm HL.out (by have := HNN.out; omega)).mono fun e w' z => by obtain ⟨q, N', z1, z2⟩ := z; exact ⟨_, z1, q, N', rfl, z2⟩) (fun vv V4 hq => ?_)
       obtain ⟨q4, N4, rfl, hi4, hlo4, hhi4, hns4, hbt4⟩ := hq
       have HP4 := Lib.hid (HP3.out.num hns4 hbt4)
       have HQ4 := Lib.hid hi4
       have HN4 : Hid ((N + 1 + 1) < N4 ∧ N4 ≤ (N + 1 + 1) + 2) := Lib.hid ⟨hlo4, hhi4⟩
       clear hi4 hlo4 hhi4 hns4 hbt4 HP3
       simp only [pu]
       refine gz1 (.pointer (some ⟨gn, 0, none⟩)) <|
        gze (fun v w' => ∃ (q : Int) (N' : Nat), v = .int .i64 q ∧ I64 q ∧ N4 < N' ∧ N' ≤ N4 + 2 ∧ Nm w' gn a c L N' ∧ But gn V4 w') ((mk_number HP4.out.nm HL.out (by have := HNN.out; have := HN4.out; omega)).mono fun e w' z => by obtain ⟨q, N', z1, z2⟩ := z; exact ⟨_, z1, q, N', rfl, z2⟩) (fun vv V5 hq => ?_)
       obtain ⟨q5, N5, rfl, hi5, hlo5, hhi5, hns5, hbt5⟩ := hq
       have HP5 := Lib.hid (HP4.out.num hns5 hbt5)
       have HQ5 := Lib.hid hi5
       have HN5 : Hid (N4 < N5 ∧ N5 ≤ N4 + 2) := Lib.hid ⟨hlo5, hhi5⟩
       clear hi5 hlo5 hhi5 hns5 hbt5 HP4
       simp only [pu]
       refine gz2 (.int .i64 q4) (.int .i64 q5) <| wn ?_
       simp only [pu]
       go_upto_region 25 with fail
       have CE := q_exp HP5.out.rep (by rw [HML.out]; have := HMB.out; omega) HBL.out HSP.out (h := q4) (t := q5) HQ4.out HQ5.out
       have hEL := expW_len m bl sp (q4) (q5)
       obtain ⟨R, hR⟩ : ∃ R, expW m bl sp (q4) (q5) = R := ⟨_, rfl⟩
       rw [hR] at CE hEL
       rw [HML.out] at hEL
       obtain ⟨k1, hk1⟩ : ∃ k, R.length = k := ⟨_, rfl⟩
       have hk1b : k1 ≤ 200 := by have := HMB.out; omega
       clear hEL
       refine wl <| gz3 (.pointer (some ⟨g0, 0, none⟩)) (.int .i64 q4) (.int .i64 q5) <| gze (fun v w' => ∃ a c, v = .slice a (List.length R) c ∧ Cs w' a (icells R) ∧ List.length R ≤ c ∧ Below V5.heap.size V5 w') (CE.mono fun e w' z => z.cs) (fun vv X1 hq => ?_)
       obtain ⟨a1, c1, rfl, hc1, hlc1, hbX1⟩ := hq
       rw [hk1] at hlc1 ⊢
       have HP1 := Lib.hid (HP5.out.below hbX1)
       have CRE := r_exp (c := cm) HP1.out.rw (by rw [HML.out]; have := HMB.out; omega) HP1.out.rep.iw HBL.out HSP.out (h := q4) (t := q5) HQ4.out HQ5.out
       rw [HML.out, hR] at CRE
       simp only [pu]
       refine gz5 (.slice al ml cm) (.int .i64 bl) (.int .i64 sp) (.int .i64 q4) (.int .i64 q5) <| gze (fun v w' => ∃ a c, v = .slice a (List.length R) c ∧ Cs w' a (icells R) ∧ List.length R ≤ c ∧ Below X1.heap.size X1 w') (CRE.mono fun e w' z => z.cs) (fun vv X2 hq => ?_)
       obtain ⟨a2, c2, rfl, hc2, hlc2, hbX2⟩ := hq
       rw [hk1] at hlc2 ⊢
       have HP2 := Lib.hid (HP1.out.below hbX2)
       have CST := same_ints (c := c1) (c2 := c2) (hc1.below hbX2) hc2 (by omega)
       rw [hk1] at CST
       simp only [pu]
       refine gzc (.bool true) (fun w' => Below X2.heap.size X2 w') (CST) (fun V6 hbZ => ?_)
       have HP6 := Lib.hid (HP2.out.below hbZ)
       clear hbX1 hbX2 hbZ hc1 hc2 hlc1 hlc2 CRE CE CST HP1 HP2 HP5 hk1 hk1b hR
       simp only [pu]
       refine gz1 (.bool false) <| wn ?_
       simp only [pu]
       have HK2 := HML
       have HMN2 : Hid (m.length ≤ N5) := Lib.hid (by have := HMN.out; have := HN4.out; have := HN5.out; omega)
       have CLN := q_len HP6.out.rep
       rw [HK2.out] at CLN
       go_upto_region 27 with fail
       refine wl <| gz1 (.pointer (some ⟨g0, 0, none⟩)) <| gzc (.int .i64 ml) (fun w' => V6 = w') (CLN) (fun V9 hV9 => ?_)
       subst hV9
       simp only [pu]
       refine gz2 (.slice al ml cm) (.int .i64 ml) <| gzb (neq_n rfl ml ml (decide_eq_false (fun h => h rfl))) <| wn ?_
       simp only [pu]
       clear CLN
       go_wp2_with fail
       go_roundg (L.length - N5)
       case measure => have := HGK.out; have := HN4.out; have := HN5.out; omega
       case rel => exact ⟨N5, _, m, al, cm, by rw [HK2.out], Nat.le_refl _, Lib.hid (by have := HLL.out; have := HN4.out; have := HN5.out; omega), HMN2, HP6⟩
      ·skip
       go_upto_region 23 with fail
       refine wl <| gzb (eql_nn rfl v3 1 (decide_eq_false hs1)) <| gz1 (.bool false) <| wn ?_
       simp only [pu]
       clear hs0 hs1
       go_upto_region 13 with fail
       refine wl <| gz2 (.int .i64 id) (.pointer (some ⟨gn, 0, none⟩)) <|
        gze (fun v w' => ∃ (q : Int) (N' : Nat), v = .int .i64 q ∧ I64 q ∧ (N + 1 + 1) < N' ∧ N' ≤ (N + 1 + 1) + 2 ∧ Nm w' gn a c L N' ∧ But gn V3 w') ((mk_number HP3.out.nm HL.out (by have := HNN.out; omega)).mono fun e w' z => by obtain ⟨q, N', z1, z2⟩ := z; exact ⟨_, z1, q, N', rfl, z2⟩) (fun vv V4 hq => ?_)
       obtain ⟨q4, N4, rfl, hi4, hlo4, hhi4, hns4, hbt4⟩ := hq
       have HP4 := Lib.hid (HP3.out.num hns4 hbt4)
       have HQ4 := Lib.hid hi4
       have HN4 : Hid ((N + 1 + 1) < N4 ∧ N4 ≤ (N + 1 + 1) + 2) := Lib.hid ⟨hlo4, hhi4⟩
       clear hi4 hlo4 hhi4 hns4 hbt4 HP3
       simp only [pu]
       refine gz1 (.pointer (some ⟨gn, 0, none⟩)) <|
        gze (fun v w' => ∃ (q : Int) (N' : Nat), v = .int .i64 q ∧ I64 q ∧ N4 < N' ∧ N' ≤ N4 + 2 ∧ Nm w' gn a c L N' ∧ But gn V4 w') ((mk_number HP4.out.nm HL.out (by have := HNN.out; have := HN4.out; omega)).mono fun e w' z => by obtain ⟨q, N', z1, z2⟩ := z; exact ⟨_, z1, q, N', rfl, z2⟩) (fun vv V5 hq => ?_)
       obtain ⟨q5, N5, rfl, hi5, hlo5, hhi5, hns5, hbt5⟩ := hq
       have HP5 := Lib.hid (HP4.out.num hns5 hbt5)
       have HQ5 := Lib.hid hi5
       have HN5 : Hid (N4 < N5 ∧ N5 ≤ N4 + 2) := Lib.hid ⟨hlo5, hhi5⟩
       clear hi5 hlo5 hhi5 hns5 hbt5 HP4
       obtain ⟨V6, hst6, hb6, hX6⟩ := new_bx (c := wtA zwt) (c' := wtA (id, q4, q5)) (ty := 41) V5 rfl (wtA_one _) (by kernel_rfl)
       have HP6 := Lib.hid (HP5.out.below hb6)
       clear hb6 HP5
       simp only [pu]
       refine gz1 (.agg (wtA (id, q4, q5))) ?_
       simp only [pu]
       refine run_to rfl (some 15) rfl (.pointer (some ⟨V5.heap.size, 0, none⟩)) (V5.alloc (.cells (wtA zwt) 41)) (by kernel_rfl) ?_
       simp only [pu]
       refine gzs rfl (hst6) <| wn ?_
       obtain ⟨gx, hgx⟩ : ∃ g, V5.heap.size = g := ⟨_, rfl⟩
       rw [hgx] at hX6 ⊢
       clear hst6 hgx
       have CRA := r_add HP6.out.rw HP6.out.rl (by rw [HML.out]; have := HMB.out; omega) (id, q4, q5)
       rw [HML.out] at CRA
       go_upto_region 14 with fail
       refine wl <| gz1 (.slice al ml cm) <| gzl rfl ⟨gx, 0, none⟩ (.agg (wtA (id, q4, q5))) (load_wtb hX6) <|
        gze (fun v w' => ∃ a2 c2, v = .tuple #[.slice a2 (addW m (id, q4, q5)).length c2, .bool (!hasW m id)] ∧ PS w gn a c L B g0 S bl sp m (addW m (id, q4, q5)) a2 c2 N5 w' ∧ Below V6.heap.size V6 w') (CRA.mono fun e w' z => by have hbb := z; obtain ⟨-, -, -, -, -, -, hb9⟩ := hbb; obtain ⟨a2, c2, z1, z2⟩ := HP6.out.ref z; exact ⟨_, z1, a2, c2, rfl, z2, hb9⟩) (fun vv V7 hq => ?_)
       obtain ⟨a2, c2, rfl, hp7, hb7⟩ := hq
       obtain ⟨k2, hk2⟩ : ∃ k, (addW m (id, q4, q5)).length = k := ⟨_, rfl⟩
       have HK2 := Lib.hid hk2
       rw [hk2]
       have CA := q_add hp7.rep (by rw [HML.out]; have := HMB.out; omega) id q4 q5 HQ4.out HQ5.out hp7.so hp7.bz
       have hX7 := hX6.below hX6.lt hb7
       have HP7 := Lib.hid hp7
       clear hp7 hk2 CRA HP6 hb7 hX6
       simp only [pu]
       refine gz5 (.tuple #[.slice a2 k2 c2, .bool (!hasW m id)]) (.slice a2 k2 c2) (.bool (!hasW m id)) (.slice a2 k2 c2) (.bool (!hasW m id)) <| wn ?_
       simp only [pu]
       go_upto_region 15 with fail
       refine wl <| gz2 (.pointer (some ⟨g0, 0, none⟩)) (.pointer (some ⟨gx, 0, none⟩)) <| gzl rfl ⟨gx, 0, none⟩ (.int .i64 id) (hX7.load (i := 0) rfl (by kernel_rfl)) <| gz1 (.pointer (some ⟨gx, 1, none⟩)) <|
        gzl rfl ⟨gx, 1, none⟩ (.int .i64 q4) (hX7.load (i := 1) rfl (by kernel_rfl)) <| gz1 (.pointer (some ⟨gx, 2, none⟩)) <| gzl rfl ⟨gx, 2, none⟩ (.int .i64 q5) (hX7.load (i := 2) rfl (by kernel_rfl)) <| gzc (.bool (!hasW m id)) (fun w' => UpdQ g0 B S bl sp (addW m (id, q4, q5)) V7 w') CA (fun V8 hu => ?_)
       obtain ⟨S2, hp8⟩ := HP7.out.prog hu
       have HP8 := Lib.hid hp8
       clear hu hp8 CA HP7
       simp only [pu]
       refine gz1 (.bool (!hasW m id)) <| gzw (.bool false) (neq_b rfl (!hasW m id)) <| wn ?_
       simp only [pu]
       clear hX7
       go_upto_region 17 with fail
       refine wl <| gz2 (.slice a2 k2 c2) (.slice a2 k2 c2) <| wn ?_
       simp only [pu]
       have HMN2 : Hid ((addW m (id, q4, q5)).length ≤ N5) := Lib.hid (by have := HMN.out; have := add_le m (id, q4, q5); have := HN4.out; have := HN5.out; omega)
       have CLN := q_len HP8.out.rep
       rw [HK2.out] at CLN
       go_upto_region 27 with fail
       refine wl <| gz1 (.pointer (some ⟨g0, 0, none⟩)) <| gzc (.int .i64 k2) (fun w' => V8 = w') (CLN) (fun V9 hV9 => ?_)
       subst hV9
       simp only [pu]
       refine gz2 (.slice a2 k2 c2) (.int .i64 k2) <| gzb (neq_n rfl k2 k2 (decide_eq_false (fun h => h rfl))) <| wn ?_
       simp only [pu]
       clear CLN
       go_wp2_with fail
       go_roundg (L.length - N5)
       case measure => have := HGK.out; have := HN4.out; have := HN5.out; omega
       case rel => exact ⟨N5, _, (addW m (id, q4, q5)), a2, c2, by rw [HK2.out], Nat.le_refl _, Lib.hid (by have := HLL.out; have := HN4.out; have := HN5.out; omega), HMN2, HP8⟩
    ·skip
     go_upto_region 10 with fail
     refine wl <| gz3 (.pointer (some ⟨gn, 0, none⟩)) (.pointer (some ⟨gn, 0, none⟩)) (.pointer (some ⟨gn, 1, none⟩)) <| gzl rfl ⟨gn, 1, none⟩ (.int .i64 N) (HPS.out.nm.1.load (i := 1) rfl (by kernel_rfl)) <| gz2 (.slice a L.length c) (.int .i64 L.length) <|
      gzb (lss_n rfl (N) (L.length) dF) <| wn ?_
     simp only [pu]
     go_upto_region 29 with fail
     refine wl <| gz1 (.int .i64 (-1)) <| wn ?_
     simp only [pu]
     have HH0 : Hid ((-1 : Int) = 2 * ((0 : Nat) : Int) - 1) := Lib.hid (by omega)
     go_wp2_with fail
     go_loopg [18] 8 (fun gg s18 wx => ∃ (j : Nat) (h : Int), s18 = .int .i64 h ∧ j ≤ 8 ∧ gg + j = 8 ∧ Hid (h = 2 * (j : Int) - 1) ∧ Hid (PS w gn a c L B g0 S bl sp m m al cm N wx))
     case atStart => exact ⟨0, -1, rfl, by omega, by omega, HH0, HPS⟩
     case round =>
      obtain ⟨j, h, rfl, hj8, hg2, HH, HPW⟩ := hrel
      have HG2 := Lib.hid hg2
      have HJ8 := Lib.hid hj8
      clear hg2 HPS HH0 hj8
      by_cases hlj : j < 8
      ·skip
       have hhe := HH.out
       have HIh : Hid (I64 h ∧ I64 (h + 1) ∧ -1 ≤ h ∧ h ≤ 13) := Lib.hid ⟨⟨by omega, by omega⟩, ⟨by omega, by omega⟩, by omega, by omega⟩
       have hh14 : h < 14 := by omega
       clear hhe
       go_upto_region 30 with fail
       refine wl <| gz1 (.int .i64 h) <| gzb (lss_n rfl h 14 (decide_eq_true hh14)) <| wn ?_
       simp only [pu]
       clear hh14
       go_upto_region 32 with fail
       have CE := q_exp HPW.out.rep (by rw [HML.out]; have := HMB.out; omega) HBL.out HSP.out (h := h) (t := h + 1) HIh.out.1 HIh.out.2.1
       have hEL := expW_len m bl sp (h) (h + 1)
       obtain ⟨R, hR⟩ : ∃ R, expW m bl sp (h) (h + 1) = R := ⟨_, rfl⟩
       rw [hR] at CE hEL
       rw [HML.out] at hEL
       obtain ⟨k1, hk1⟩ : ∃ k, R.length = k := ⟨_, rfl⟩
       have hk1b : k1 ≤ 200 := by have := HMB.out; omega
       clear hEL
       refine wl <| gz3 (.pointer (some ⟨g0, 0, none⟩)) (.int .i64 h) (.int .i64 h) <| gzw (.int .i64 (h + 1)) (add_i rfl h 1 (by have := HIh.out; omega)) <|
        gze (fun v w' => ∃ a c, v = .slice a (List.length R) c ∧ Cs w' a (icells R) ∧ List.length R ≤ c ∧ Below wr.heap.size wr w') (CE.mono fun e w' z => z.cs) (fun vv X1 hq => ?_)
       obtain ⟨a1, c1, rfl, hc1, hlc1, hbX1⟩ := hq
       rw [hk1] at hlc1 ⊢
       have HP1 := Lib.hid (HPW.out.below hbX1)
       have CRE := r_exp (c := cm) HP1.out.rw (by rw [HML.out]; have := HMB.out; omega) HP1.out.rep.iw HBL.out HSP.out (h := h) (t := h + 1) HIh.out.1 HIh.out.2.1
       rw [HML.out, hR] at CRE
       simp only [pu]
       refine gz5 (.slice al ml cm) (.int .i64 bl) (.int .i64 sp) (.int .i64 h) (.int .i64 h) <| gzw (.int .i64 (h + 1)) (add_i rfl h 1 (by have := HIh.out; omega)) <|
        gze (fun v w' => ∃ a c, v = .slice a (List.length R) c ∧ Cs w' a (icells R) ∧ List.length R ≤ c ∧ Below X1.heap.size X1 w') (CRE.mono fun e w' z => z.cs) (fun vv X2 hq => ?_)
       obtain ⟨a2, c2, rfl, hc2, hlc2, hbX2⟩ := hq
       rw [hk1] at hlc2 ⊢
       have HP2 := Lib.hid (HP1.out.below hbX2)
       have CST := same_ints (c := c1) (c2 := c2) (hc1.below hbX2) hc2 (by omega)
       rw [hk1] at CST
       simp only [pu]
       refine gzc (.bool true) (fun w' => Below X2.heap.size X2 w') (CST) (fun V6 hbZ => ?_)
       have HP6 := Lib.hid (HP2.out.below hbZ)
       clear hbX1 hbX2 hbZ hc1 hc2 hlc1 hlc2 CRE CE CST HP1 HP2 HPW hk1 hk1b hR
       simp only [pu]
       refine gz1 (.bool false) <| wn ?_
       simp only [pu]
       go_upto_region 31 with fail
       refine wl <| gz1 (.int .i64 h) <| gzw (.int .i64 (h + 2)) (add_i rfl h 2 (by have := HIh.out; omega)) <| gz1 (.int .i64 (h + 2)) <| wn ?_
       simp only [pu]
       go_wp2_with fail
       go_roundg (8 - (j + 1))
       case measure => have := HG2.out; omega
       case rel => exact ⟨j + 1, h + 2, rfl, by omega, by omega, Lib.hid (by have := HH.out; omega), HP6⟩
      ·skip
       have hh14 : ¬ h < 14 := by have := HH.out; omega
       go_upto_region 30 with fail
       refine wl <| gz1 (.int .i64 h) <| gzb (lss_n rfl h 14 (decide_eq_false hh14)) <| wn ?_
       simp only [pu]
       clear hh14
       have HBK := Lib.hid HPW.out.bel
       clear HPW
       have CK := known_true wr
       go_upto_region 34 with fail
       refine wl <| gzc (.bool true) (fun w' => Below wr.heap.size wr w') (CK) (fun V8 hV8 => ?_)
       simp only [pu]
       refine gz1 (.bool true) <| wn ?_
       simp only [pu]
       have HE := HBK.out.trans (hV8.mono HBK.out.size)
       go_wp2_with fail
       go_ret
       exact ⟨rfl, HE⟩
end Go.Proofs.Ytdjphghoollejaa
