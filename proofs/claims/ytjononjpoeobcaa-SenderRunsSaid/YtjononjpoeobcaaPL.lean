/-
 play: contract.
-/
import Derived.Test.YtjononjpoeobcaaKN
namespace Go.Proofs.Ytjononjpoeobcaa
attribute [local irreducible] wpList wpQuiet
open Go.RowKit
set_option maxRecDepth 100000
set_option linter.unusedSimpArgs false
set_option linter.unusedVariables false

/-- What is known of the rows that were played to. -/
structure PlQ (m : List Rw) (N : Nat) : Prop where
 srt : Srt m
 ww : RwW m
 nb : ∀ x ∈ m, x.1.size ≤ 1000000
 ln : m.length ≤ N
theorem PlQ.mono {m : List Rw} {N N2 : Nat} (h : PlQ m N) (hN : N ≤ N2) : PlQ m N2 := { h with ln := Nat.le_trans h.ln hN }
theorem PlQ.add {m : List Rw} {N : Nat} (h : PlQ m N) (k : Ky) (hk : k.1.size ≤ 1000000) (hw : W64 k.2) (id : Int) : PlQ (addR m k id) (N + 1) := by
 cases hh : hasR m k with
 | true => rw [add_no hh]; exact h.mono (Nat.le_succ _)
 | false =>
  have ha := add_yes h.srt hh id
  exact ⟨ha.srt, fun x hx => (ha.mem x hx).elim (fun e => by rw [e]; exact hw) (h.ww x), fun x hx => (ha.mem x hx).elim (fun e => by rw [e]; exact hk) (h.nb x), by rw [ha.len]; exact Nat.succ_le_succ h.ln⟩
theorem PlQ.rem {m : List Rw} {N : Nat} (h : PlQ m N) (k : Ky) : PlQ (remR k m) N := by
 cases hh : hasR m k with
 | false => rw [rem_no hh]; exact h
 | true =>
  have ha := rem_yes h.srt hh
  exact ⟨ha.srt, fun x hx => h.ww x (ha.mem x hx), fun x hx => h.nb x (ha.mem x hx), by have := ha.len; have := h.ln; omega⟩
/-- While an index and its rows are played with. -/
structure PS (w : World) (gn : Nat) (a : Option Addr) (c : Nat) (L : List Int) (B g0 : Nat) (S : Nat → Prop) (m mr : List Rw) (al : Option Addr) (cm : Nat) (N : Nat) (V : World) : Prop where
 bel : Below w.heap.size w V
 wn : w.heap.size ≤ gn
 nB : gn < B
 bz : B ≤ V.heap.size
 nm : Nm V gn a c L N
 rep : RepI V g0 S m
 so : ∀ k, S k → B ≤ k
 rw : Cs V al (rwcs mr)
 rl : mr.length ≤ cm
 ro : ∀ k, rb al (rwcs mr) k → B ≤ k ∧ ¬ S k
section
variable {w : World} {gn : Nat} {a : Option Addr} {c : Nat} {L : List Int} {B g0 : Nat} {S : Nat → Prop} {m mr m2 mr2 : List Rw} {al : Option Addr} {cm N N2 : Nat} {V V2 : World}
theorem PS.num (h : PS w gn a c L B g0 S m mr al cm N V) (hn : Nm V2 gn a c L N2) (hb : But gn V V2) : PS w gn a c L B g0 S m mr al cm N2 V2 :=
 have h1 := h.nB
 {h with bel := h.bel.trans (hb.1.mono h.wn), bz := Nat.le_trans h.bz hb.1.size, nm := hn, rep := h.rep.same fun k hk => hb.2 k (h.rep.inn k hk) (by have := h.so k hk; omega), rw := cs_same h.rw fun k hk => hb.2 k (cs_rlt h.rw k hk) (by have := (h.ro k hk).1; omega) }
theorem PS.ref (h : PS w gn a c L B g0 S m mr al cm N V) {b : Bool} {e : Ending} (hr : RwO V al mr mr2 b e V2) : ∃ a2 c2, e = .returned (.tuple #[.slice a2 mr2.length c2, .bool b]) ∧ PS w gn a c L B g0 S m mr2 a2 c2 N V2 := by
 obtain ⟨a2, c2, h1, h2, h3, h4, h5⟩ := hr
 have h6 := h.bz
 exact ⟨a2, c2, h1, { h with bel := h.bel.trans (h5.mono h.bel.size), bz := Nat.le_trans h.bz h5.size, nm := h.nm.below h5, rep := h.rep.below h5, rw := h2, rl := h3, ro := fun k hk => (h4 k hk).elim (h.ro k) fun h7 => ⟨by omega, fun hS => by have := h.rep.inn k hS; omega⟩ }⟩
theorem PS.prog (h : PS w gn a c L B g0 S m mr al cm N V) (hu : UpdI g0 B S m2 V V2) : ∃ S2, PS w gn a c L B g0 S2 m2 mr al cm N V2 := by
 obtain ⟨S2, q1, q2, q3⟩ := hu
 have h1 := h.wn
 have h2 := h.nB
 exact ⟨S2, { h with bel := h.bel.trans (q3.1.mono (by omega)), bz := Nat.le_trans h.bz q3.1.size, nm := h.nm.buts q3 h.nB, rep := q1, so := fun k hk => (q2 k hk).elim (h.so k) (Nat.le_trans h.bz), rw := cs_same h.rw fun k hk => q3.2 k (cs_rlt h.rw k hk) (h.ro k hk).2, ro := fun k hk => ⟨(h.ro k hk).1, fun hS => (q2 k hS).elim (h.ro k hk).2 fun h4 => by have := cs_rlt h.rw k hk; omega⟩ }⟩
end
def PlO (w : World) (e : Ending) (w' : World) : Prop := ∃ (g0 : Nat) (S : Nat → Prop) (m : List Rw) (al : Option Addr) (cm : Nat), e = .returned (.tuple #[.pointer (some ⟨g0, 0, none⟩), .slice al m.length cm, .bool true]) ∧ RepI w' g0 S m ∧ (∀ k, S k → w.heap.size ≤ k) ∧ Cs w' al (rwcs m) ∧ m.length ≤ cm ∧ (∀ k, rb al (rwcs m) k → ¬ S k) ∧ PlQ m 200 ∧ Below w.heap.size w w'
set_option maxRecDepth 100000 in
set_option maxHeartbeats 8000000 in
theorem play_ok {w : World} {a : Option Addr} {c : Nat} {L : List Int} (hL : Cs w a (icells L)) (hl : L.length ≤ 160) (nmS : ByteArray) (hns : nmS.size ≤ 1000000) : Calls Try.prog 9 #[.slice a L.length c, .string nmS] w (PlO w) := by
 have HLL : Hid (L.length ≤ 160) := Lib.hid hl
 have HL : Hid (L.length ≤ 100000) := Lib.hid (by omega)
 have HL0 := Lib.hid hL
 have HNS := Lib.hid hns
 have CF := mk_from a L.length c w
 clear hL hl hns
 go_enter Try.func9, Try.ntmps9
 go_upto_region 1 with fail
 refine wl <| gz1 (.slice a L.length c) <| gze (fun v w' => v = .pointer (some ⟨w.heap.size, 0, none⟩) ∧ w' = w.alloc (.cells #[.slice a L.length c, .int .i64 0] 53)) (CF.mono fun e w' z => ⟨_, z.1, rfl, z.2⟩) (fun vv V0 hq => ?_)
 obtain ⟨rfl, hV0⟩ := hq
 have hb0 : Below w.heap.size w V0 := by rw [hV0]; exact (Below.refl _ w).alloc (Nat.le_refl _) _
 have hXn : Bx V0 w.heap.size #[.slice a L.length c, .int .i64 (0 : Nat)] 53 := by rw [hV0]; exact heap_alloc_last w _
 obtain ⟨gn, hgn⟩ : ∃ g, w.heap.size = g := ⟨_, rfl⟩
 rw [hgn] at hXn ⊢
 have hnm : Nm V0 gn a c L 0 := ⟨hXn, HL0.out.below hb0, fun hne x hx => by
  obtain ⟨b, off, e2, hb, -⟩ := HL0.out 0 _ (icells_at L 0 (List.length_pos_iff.2 hne))
  rw [hx] at e2; cases e2; rw [hgn] at hb; exact hb⟩
 have HGN : Hid (w.heap.size ≤ gn ∧ gn < V0.heap.size) := Lib.hid ⟨by omega, hnm.lt⟩
 have HNM := Lib.hid hnm
 have HB0 := Lib.hid hb0
 have CN := q_new V0
 clear hV0 hb0 hXn hgn hnm CF
 simp only [pu]
 refine gz1 (.pointer (some ⟨gn, 0, none⟩)) <| wn ?_
 simp only [pu]
 go_upto_region 2 with fail
 refine wl <| gze (fun v w' => ∃ g S, v = .pointer (some ⟨g, 0, none⟩) ∧ RepI w' g S [] ∧ (∀ k, S k → V0.heap.size ≤ k) ∧ Below V0.heap.size V0 w') (CN.mono fun e w' z => by obtain ⟨g, S, z1, z2⟩ := z; exact ⟨_, z1, g, S, rfl, z2⟩) (fun vv V1 hq => ?_)
 obtain ⟨g0, S0, rfl, hr0, hso, hb1⟩ := hq
 obtain ⟨B, hB⟩ : ∃ B, V0.heap.size = B := ⟨_, rfl⟩
 have HPS0 : Hid (PS w gn a c L B g0 S0 [] [] none 0 0 V1) := Lib.hid ⟨HB0.out.trans (hb1.mono HB0.out.size), HGN.out.1, by rw [← hB]; exact HGN.out.2, by rw [← hB]; exact hb1.size, HNM.out.below hb1, hr0, fun k hk => by rw [← hB]; exact hso k hk, Cs.nil _ _, Nat.le_refl 0, fun k hk => (hk.1 rfl).elim⟩
 have HQ0 : Hid (PlQ [] 0) := Lib.hid ⟨List.Pairwise.nil, fun x hx => by simp at hx, fun x hx => by simp at hx, Nat.le_refl 0⟩
 clear hr0 hso hb1 CN HNM HB0 hB
 simp only [pu]
 refine gz1 (.pointer (some ⟨g0, 0, none⟩)) <| wn ?_
 simp only [pu]
 go_upto_region 3 with fail
 refine wl <| gz1 (.slice none 0 0) <| wn ?_
 simp only [pu]
 go_upto_region 4 with fail
 refine wl <| gz2 (.pointer (some ⟨g0, 0, none⟩)) (.bool false) <| wn ?_
 simp only [pu]
 go_wp2_with fail
 go_loopg [9] L.length (fun gg s9 wx => ∃ (N : Nat) (S : Nat → Prop) (m : List Rw) (al : Option Addr) (cm : Nat), s9 = .slice al m.length cm ∧ gg = L.length - N ∧ Hid (N ≤ 190) ∧ Hid (PlQ m N) ∧ Hid (PS w gn a c L B g0 S m m al cm N wx))
 case atStart => exact ⟨0, S0, [], none, 0, rfl, rfl, Lib.hid (by omega), HQ0, HPS0⟩
 case round =>
  obtain ⟨N, S, m, al, cm, rfl, hg, HNN, HQM, HPS⟩ := hrel
  clear HPS0 HQ0
  have HGK := Lib.hid hg
  obtain ⟨ml, hml⟩ : ∃ k, m.length = k := ⟨_, rfl⟩
  have HML := Lib.hid hml
  have HMB : Hid (ml ≤ 190) := Lib.hid (by have := HQM.out.ln; have := HNN.out; omega)
  rw [hml]
  clear hg hml
  by_cases hlt : N < L.length
  ·skip
   go_upto_region 6 with fail
   refine wl <| gz3 (.pointer (some ⟨gn, 0, none⟩)) (.pointer (some ⟨gn, 0, none⟩)) (.pointer (some ⟨gn, 1, none⟩)) <| gzl rfl ⟨gn, 1, none⟩ (.int .i64 N) (HPS.out.nm.1.load (i := 1) rfl (by kernel_rfl)) <| gz2 (.slice a L.length c) (.int .i64 L.length) <|
    gzb (lss_n rfl (N) (L.length) dT) <| wn ?_
   simp only [pu]
   have CNM := mk_name HPS.out.nm HL.out (by have := HNN.out; omega)
   go_upto_region 7 with fail
   refine wl <| gz1 (.pointer (some ⟨gn, 0, none⟩)) <| gze (fun v w' => ∃ s : ByteArray, v = .string s ∧ s.size ≤ 1000 ∧ Nm w' gn a c L (N + 1) ∧ But gn wr w') (CNM.mono fun e w' z => by obtain ⟨s, z1, z2⟩ := z; exact ⟨_, z1, s, rfl, z2⟩) (fun vv V1 hq => ?_)
   obtain ⟨s, rfl, hsz, hn1, hb1⟩ := hq
   have HP1 := Lib.hid (HPS.out.num hn1 hb1)
   have HSZ : Hid (s.size ≤ 1000000) := Lib.hid (by omega)
   clear hn1 hb1 hsz CNM HPS
   simp only [pu]
   refine gz1 (.string s) <| wn ?_
   simp only [pu]
   go_upto_region 8 with fail
   refine wl <| gz1 (.pointer (some ⟨gn, 0, none⟩)) <| gze (fun v w' => ∃ q : Nat, v = .int .i64 q ∧ (q : Int) < 9 ∧ Nm w' gn a c L ((N + 1) + 1) ∧ But gn V1 w') (nx2 HP1.out.nm HL.out (by have := HNN.out; omega) 9 (by first | decide | omega) (by first | decide | omega)) (fun vv V2 hq => ?_)
   obtain ⟨v2, rfl, hv2, hns2, hbt2⟩ := hq
   have HP2 := Lib.hid (HP1.out.num hns2 hbt2)
   clear hns2 hbt2 HP1
   simp only [pu]
   by_cases h9 : v2 = 0
   ·skip
    refine gzb (eql_nn rfl v2 0 (decide_eq_true h9)) <| wn ?_
    simp only [pu]
    clear h9
    go_upto_region 9 with fail
    refine wl <| gz2 (.string nmS) (.string nmS) <| wn ?_
    simp only [pu]
    have CSQ := mk_seq HP2.out.nm HL.out (by have := HNN.out; omega)
    go_upto_region 10 with fail
    refine wl <| gz1 (.pointer (some ⟨gn, 0, none⟩)) <| gze (fun v w' => ∃ q : Int, v = .int .u64 q ∧ W64 q ∧ Nm w' gn a c L (N + 1 + 1 + 2) ∧ But gn V2 w') (CSQ.mono fun e w' z => by obtain ⟨q, z1, z2⟩ := z; exact ⟨_, z1, q, rfl, z2⟩) (fun vv V3 hq => ?_)
    obtain ⟨q, rfl, hqw, hns3, hbt3⟩ := hq
    have HP3 := Lib.hid (HP2.out.num hns3 hbt3)
    have HQW := Lib.hid hqw
    clear hns3 hbt3 HP2 CSQ hqw
    simp only [pu]
    refine gz1 (.int .u64 q) <| wn ?_
    simp only [pu]
    go_upto_region 11 with fail
    refine wl <| gz1 (.pointer (some ⟨gn, 0, none⟩)) <| gze (fun v w' => ∃ q : Nat, v = .int .i64 q ∧ (q : Int) < 3 ∧ Nm w' gn a c L ((N + 1 + 1 + 2) + 1) ∧ But gn V3 w') (nx2 HP3.out.nm HL.out (by have := HNN.out; omega) 3 (by first | decide | omega) (by first | decide | omega)) (fun vv V4 hq => ?_)
    obtain ⟨v4, rfl, hv4, hns4, hbt4⟩ := hq
    have HP4 := Lib.hid (HP3.out.num hns4 hbt4)
    clear hns4 hbt4 HP3
    simp only [pu]
    by_cases h3 : v4 = 0
    ·skip
     refine gzb (eql_nn rfl v4 0 (decide_eq_true h3)) <| wn ?_
     simp only [pu]
     clear h3
     have CRR := r_rem HP4.out.rw HP4.out.rl (by rw [HML.out]; have := HMB.out; omega) (nmS, q)
     rw [HML.out] at CRR
     go_upto_region 12 with fail
     refine wl <| gz3 (.slice al ml cm) (.string nmS) (.int .u64 q) <|
      gze (fun v w' => ∃ a2 c2, v = .tuple #[.slice a2 (remR (nmS, q) m).length c2, .bool (hasR m (nmS, q))] ∧ PS w gn a c L B g0 S m (remR (nmS, q) m) a2 c2 (N + 1 + 1 + 2 + 1) w') (CRR.mono fun e w' z => by obtain ⟨a2, c2, z1, z2⟩ := HP4.out.ref z; exact ⟨_, z1, a2, c2, rfl, z2⟩) (fun vv V5 hq => ?_)
     obtain ⟨a2, c2, rfl, hp5⟩ := hq
     obtain ⟨k2, hk2⟩ : ∃ k, (remR (nmS, q) m).length = k := ⟨_, rfl⟩
     have HK2 := Lib.hid hk2
     rw [hk2]
     have CR := q_rem hp5.rep HQM.out.srt (by rw [HML.out]; have := HMB.out; omega) (nmS, q) HNS.out hp5.so hp5.bz
     have HP5 := Lib.hid hp5
     clear hp5 hk2 CRR HP4
     simp only [pu]
     refine gz5 (.tuple #[.slice a2 k2 c2, .bool (hasR m (nmS, q))]) (.slice a2 k2 c2) (.bool (hasR m (nmS, q))) (.slice a2 k2 c2) (.bool (hasR m (nmS, q))) <| wn ?_
     simp only [pu]
     go_upto_region 13 with fail
     refine wl <| gz3 (.pointer (some ⟨g0, 0, none⟩)) (.string nmS) (.int .u64 q) <| gzc (.bool (hasR m (nmS, q))) (fun w' => UpdI g0 B S (remR (nmS, q) m) V5 w') CR (fun V6 hu => ?_)
     obtain ⟨S2, hp6⟩ := HP5.out.prog hu
     have HP6 := Lib.hid hp6
     clear hu hp6 CR HP5
     simp only [pu]
     refine gz1 (.bool (hasR m (nmS, q))) <| gzw (.bool false) (neq_b rfl (hasR m (nmS, q))) <| wn ?_
     simp only [pu]
     go_upto_region 15 with fail
     refine wl <| gz2 (.slice a2 k2 c2) (.slice a2 k2 c2) <| wn ?_
     simp only [pu]
     have HQ6 : Hid (PlQ (remR (nmS, q) m) (N + 5)) := Lib.hid ((HQM.out.rem _).mono (by omega))
     go_wp2_with fail
     go_roundg (L.length - (N + 5))
     case measure => have := HGK.out; omega
     case rel => exact ⟨N + 5, S2, remR (nmS, q) m, a2, c2, by rw [HK2.out], rfl, Lib.hid (by have := HLL.out; omega), HQ6, HP6⟩
    ·skip
     refine gzb (eql_nn rfl v4 0 (decide_eq_false h3)) <| wn ?_
     simp only [pu]
     clear h3
     go_upto_region 16 with fail
     refine wl <| gz1 (.pointer (some ⟨gn, 0, none⟩)) <|
      gze (fun v w' => ∃ q : Nat, v = .int .i64 q ∧ (q : Int) < 50 ∧ Nm w' gn a c L ((N + 1 + 1 + 2 + 1) + 1) ∧ But gn V4 w') (nx2 HP4.out.nm HL.out (by have := HNN.out; omega) 50 (by first | decide | omega) (by first | decide | omega)) (fun vv V5 hq => ?_)
     obtain ⟨v5, rfl, hv5, hns5, hbt5⟩ := hq
     have HP5 := Lib.hid (HP4.out.num hns5 hbt5)
     clear hns5 hbt5 HP4
     simp only [pu]
     refine gzw (.int .i64 ((v5 : Int) - 5)) (sub_i rfl v5 5 (by omega)) <| gz1 (.int .i64 ((v5 : Int) - 5)) <| wn ?_
     simp only [pu]
     obtain ⟨id, hid⟩ : ∃ i : Int, (v5 : Int) - 5 = i := ⟨_, rfl⟩
     rw [hid]
     clear hid hv5
     have CRA := r_add HP5.out.rw HP5.out.rl (by rw [HML.out]; have := HMB.out; omega) (nmS, q) id
     rw [HML.out] at CRA
     go_upto_region 17 with fail
     refine wl <| gz4 (.slice al ml cm) (.string nmS) (.int .u64 q) (.int .i64 id) <|
      gze (fun v w' => ∃ a2 c2, v = .tuple #[.slice a2 (addR m (nmS, q) id).length c2, .bool (!hasR m (nmS, q))] ∧ PS w gn a c L B g0 S m (addR m (nmS, q) id) a2 c2 (N + 1 + 1 + 2 + 1 + 1) w') (CRA.mono fun e w' z => by obtain ⟨a2, c2, z1, z2⟩ := HP5.out.ref z; exact ⟨_, z1, a2, c2, rfl, z2⟩) (fun vv V6 hq => ?_)
     obtain ⟨a2, c2, rfl, hp6⟩ := hq
     obtain ⟨k2, hk2⟩ : ∃ k, (addR m (nmS, q) id).length = k := ⟨_, rfl⟩
     have HK2 := Lib.hid hk2
     rw [hk2]
     have CA := q_add hp6.rep HQM.out.srt (by rw [HML.out]; have := HMB.out; omega) (nmS, q) HNS.out id hp6.so hp6.bz
     have HP6 := Lib.hid hp6
     clear hp6 hk2 CRA HP5
     simp only [pu]
     refine gz5 (.tuple #[.slice a2 k2 c2, .bool (!hasR m (nmS, q))]) (.slice a2 k2 c2) (.bool (!hasR m (nmS, q))) (.slice a2 k2 c2) (.bool (!hasR m (nmS, q))) <| wn ?_
     simp only [pu]
     go_upto_region 18 with fail
     refine wl <| gz4 (.pointer (some ⟨g0, 0, none⟩)) (.string nmS) (.int .u64 q) (.int .i64 id) <| gzc (.bool (!hasR m (nmS, q))) (fun w' => UpdI g0 B S (addR m (nmS, q) id) V6 w') CA (fun V7 hu => ?_)
     obtain ⟨S2, hp7⟩ := HP6.out.prog hu
     have HP7 := Lib.hid hp7
     clear hu hp7 CA HP6
     simp only [pu]
     refine gz1 (.bool (!hasR m (nmS, q))) <| gzw (.bool false) (neq_b rfl (!hasR m (nmS, q))) <| wn ?_
     simp only [pu]
     go_upto_region 20 with fail
     refine wl <| gz2 (.slice a2 k2 c2) (.slice a2 k2 c2) <| wn ?_
     simp only [pu]
     have HQ6 : Hid (PlQ (addR m (nmS, q) id) (N + 6)) := Lib.hid ((HQM.out.add (nmS, q) HNS.out HQW.out id).mono (by omega))
     go_wp2_with fail
     go_roundg (L.length - (N + 6))
     case measure => have := HGK.out; omega
     case rel => exact ⟨N + 6, S2, addR m (nmS, q) id, a2, c2, by rw [HK2.out], rfl, Lib.hid (by have := HLL.out; omega), HQ6, HP7⟩
   ·skip
    refine gzb (eql_nn rfl v2 0 (decide_eq_false h9)) <| wn ?_
    simp only [pu]
    clear h9
    have CSQ := mk_seq HP2.out.nm HL.out (by have := HNN.out; omega)
    go_upto_region 10 with fail
    refine wl <| gz1 (.pointer (some ⟨gn, 0, none⟩)) <| gze (fun v w' => ∃ q : Int, v = .int .u64 q ∧ W64 q ∧ Nm w' gn a c L (N + 1 + 1 + 2) ∧ But gn V2 w') (CSQ.mono fun e w' z => by obtain ⟨q, z1, z2⟩ := z; exact ⟨_, z1, q, rfl, z2⟩) (fun vv V3 hq => ?_)
    obtain ⟨q, rfl, hqw, hns3, hbt3⟩ := hq
    have HP3 := Lib.hid (HP2.out.num hns3 hbt3)
    have HQW := Lib.hid hqw
    clear hns3 hbt3 HP2 CSQ hqw
    simp only [pu]
    refine gz1 (.int .u64 q) <| wn ?_
    simp only [pu]
    go_upto_region 11 with fail
    refine wl <| gz1 (.pointer (some ⟨gn, 0, none⟩)) <| gze (fun v w' => ∃ q : Nat, v = .int .i64 q ∧ (q : Int) < 3 ∧ Nm w' gn a c L ((N + 1 + 1 + 2) + 1) ∧ But gn V3 w') (nx2 HP3.out.nm HL.out (by have := HNN.out; omega) 3 (by first | decide | omega) (by first | decide | omega)) (fun vv V4 hq => ?_)
    obtain ⟨v4, rfl, hv4, hns4, hbt4⟩ := hq
    have HP4 := Lib.hid (HP3.out.num hns4 hbt4)
    clear hns4 hbt4 HP3
    simp only [pu]
    by_cases h3 : v4 = 0
    ·skip
     refine gzb (eql_nn rfl v4 0 (decide_eq_true h3)) <| wn ?_
     simp only [pu]
     clear h3
     have CRR := r_rem HP4.out.rw HP4.out.rl (by rw [HML.out]; have := HMB.out; omega) (s, q)
     rw [HML.out] at CRR
     go_upto_region 12 with fail
     refine wl <| gz3 (.slice al ml cm) (.string s) (.int .u64 q) <|
      gze (fun v w' => ∃ a2 c2, v = .tuple #[.slice a2 (remR (s, q) m).length c2, .bool (hasR m (s, q))] ∧ PS w gn a c L B g0 S m (remR (s, q) m) a2 c2 (N + 1 + 1 + 2 + 1) w') (CRR.mono fun e w' z => by obtain ⟨a2, c2, z1, z2⟩ := HP4.out.ref z; exact ⟨_, z1, a2, c2, rfl, z2⟩) (fun vv V5 hq => ?_)
     obtain ⟨a2, c2, rfl, hp5⟩ := hq
     obtain ⟨k2, hk2⟩ : ∃ k, (remR (s, q) m).length = k := ⟨_, rfl⟩
     have HK2 := Lib.hid hk2
     rw [hk2]
     have CR := q_rem hp5.rep HQM.out.srt (by rw [HML.out]; have := HMB.out; omega) (s, q) HSZ.out hp5.so hp5.bz
     have HP5 := Lib.hid hp5
     clear hp5 hk2 CRR HP4
     simp only [pu]
     refine gz5 (.tuple #[.slice a2 k2 c2, .bool (hasR m (s, q))]) (.slice a2 k2 c2) (.bool (hasR m (s, q))) (.slice a2 k2 c2) (.bool (hasR m (s, q))) <| wn ?_
     simp only [pu]
     go_upto_region 13 with fail
     refine wl <| gz3 (.pointer (some ⟨g0, 0, none⟩)) (.string s) (.int .u64 q) <| gzc (.bool (hasR m (s, q))) (fun w' => UpdI g0 B S (remR (s, q) m) V5 w') CR (fun V6 hu => ?_)
     obtain ⟨S2, hp6⟩ := HP5.out.prog hu
     have HP6 := Lib.hid hp6
     clear hu hp6 CR HP5
     simp only [pu]
     refine gz1 (.bool (hasR m (s, q))) <| gzw (.bool false) (neq_b rfl (hasR m (s, q))) <| wn ?_
     simp only [pu]
     go_upto_region 15 with fail
     refine wl <| gz2 (.slice a2 k2 c2) (.slice a2 k2 c2) <| wn ?_
     simp only [pu]
     have HQ6 : Hid (PlQ (remR (s, q) m) (N + 5)) := Lib.hid ((HQM.out.rem _).mono (by omega))
     go_wp2_with fail
     go_roundg (L.length - (N + 5))
     case measure => have := HGK.out; omega
     case rel => exact ⟨N + 5, S2, remR (s, q) m, a2, c2, by rw [HK2.out], rfl, Lib.hid (by have := HLL.out; omega), HQ6, HP6⟩
    ·skip
     refine gzb (eql_nn rfl v4 0 (decide_eq_false h3)) <| wn ?_
     simp only [pu]
     clear h3
     go_upto_region 16 with fail
     refine wl <| gz1 (.pointer (some ⟨gn, 0, none⟩)) <|
      gze (fun v w' => ∃ q : Nat, v = .int .i64 q ∧ (q : Int) < 50 ∧ Nm w' gn a c L ((N + 1 + 1 + 2 + 1) + 1) ∧ But gn V4 w') (nx2 HP4.out.nm HL.out (by have := HNN.out; omega) 50 (by first | decide | omega) (by first | decide | omega)) (fun vv V5 hq => ?_)
     obtain ⟨v5, rfl, hv5, hns5, hbt5⟩ := hq
     have HP5 := Lib.hid (HP4.out.num hns5 hbt5)
     clear hns5 hbt5 HP4
     simp only [pu]
     refine gzw (.int .i64 ((v5 : Int) - 5)) (sub_i rfl v5 5 (by omega)) <| gz1 (.int .i64 ((v5 : Int) - 5)) <| wn ?_
     simp only [pu]
     obtain ⟨id, hid⟩ : ∃ i : Int, (v5 : Int) - 5 = i := ⟨_, rfl⟩
     rw [hid]
     clear hid hv5
     have CRA := r_add HP5.out.rw HP5.out.rl (by rw [HML.out]; have := HMB.out; omega) (s, q) id
     rw [HML.out] at CRA
     go_upto_region 17 with fail
     refine wl <| gz4 (.slice al ml cm) (.string s) (.int .u64 q) (.int .i64 id) <|
      gze (fun v w' => ∃ a2 c2, v = .tuple #[.slice a2 (addR m (s, q) id).length c2, .bool (!hasR m (s, q))] ∧ PS w gn a c L B g0 S m (addR m (s, q) id) a2 c2 (N + 1 + 1 + 2 + 1 + 1) w') (CRA.mono fun e w' z => by obtain ⟨a2, c2, z1, z2⟩ := HP5.out.ref z; exact ⟨_, z1, a2, c2, rfl, z2⟩) (fun vv V6 hq => ?_)
     obtain ⟨a2, c2, rfl, hp6⟩ := hq
     obtain ⟨k2, hk2⟩ : ∃ k, (addR m (s, q) id).length = k := ⟨_, rfl⟩
     have HK2 := Lib.hid hk2
     rw [hk2]
     have CA := q_add hp6.rep HQM.out.srt (by rw [HML.out]; have := HMB.out; omega) (s, q) HSZ.out id hp6.so hp6.bz
     have HP6 := Lib.hid hp6
     clear hp6 hk2 CRA HP5
     simp only [pu]
     refine gz5 (.tuple #[.slice a2 k2 c2, .bool (!hasR m (s, q))]) (.slice a2 k2 c2) (.bool (!hasR m (s, q))) (.slice a2 k2 c2) (.bool (!hasR m (s, q))) <| wn ?_
     simp only [pu]
     go_upto_region 18 with fail
     refine wl <| gz4 (.pointer (some ⟨g0, 0, none⟩)) (.string s) (.int .u64 q) (.int .i64 id) <| gzc (.bool (!hasR m (s, q))) (fun w' => UpdI g0 B S (addR m (s, q) id) V6 w') CA (fun V7 hu => ?_)
     obtain ⟨S2, hp7⟩ := HP6.out.prog hu
     have HP7 := Lib.hid hp7
     clear hu hp7 CA HP6
     simp only [pu]
     refine gz1 (.bool (!hasR m (s, q))) <| gzw (.bool false) (neq_b rfl (!hasR m (s, q))) <| wn ?_
     simp only [pu]
     go_upto_region 20 with fail
     refine wl <| gz2 (.slice a2 k2 c2) (.slice a2 k2 c2) <| wn ?_
     simp only [pu]
     have HQ6 : Hid (PlQ (addR m (s, q) id) (N + 6)) := Lib.hid ((HQM.out.add (s, q) HSZ.out HQW.out id).mono (by omega))
     go_wp2_with fail
     go_roundg (L.length - (N + 6))
     case measure => have := HGK.out; omega
     case rel => exact ⟨N + 6, S2, addR m (s, q) id, a2, c2, by rw [HK2.out], rfl, Lib.hid (by have := HLL.out; omega), HQ6, HP7⟩
  ·skip
   go_upto_region 6 with fail
   refine wl <| gz3 (.pointer (some ⟨gn, 0, none⟩)) (.pointer (some ⟨gn, 0, none⟩)) (.pointer (some ⟨gn, 1, none⟩)) <| gzl rfl ⟨gn, 1, none⟩ (.int .i64 N) (HPS.out.nm.1.load (i := 1) rfl (by kernel_rfl)) <| gz2 (.slice a L.length c) (.int .i64 L.length) <|
    gzb (lss_n rfl (N) (L.length) dF) <| wn ?_
   simp only [pu]
   have HE : Hid (PlO w (.returned (.tuple #[.pointer (some ⟨g0, 0, none⟩), .slice al ml cm, .bool true])) wr) := Lib.hid (by
    rw [← HML.out]
    exact ⟨g0, S, m, al, cm, rfl, HPS.out.rep, fun k hk => by have := HPS.out.so k hk; have := HPS.out.nB; have := HPS.out.wn; omega, HPS.out.rw, HPS.out.rl, fun k hk => (HPS.out.ro k hk).2, HQM.out.mono (by have := HNN.out; omega), HPS.out.bel⟩)
   clear HPS HQM HML
   go_upto_region 21 with fail
   refine wl <| gz5 (.pointer (some ⟨g0, 0, none⟩)) (.slice al ml cm) (.pointer (some ⟨g0, 0, none⟩)) (.slice al ml cm) (.bool true) <| wn ?_
   simp only [pu]
   go_wp2_with fail
   go_ret3
   exact HE.out
end Go.Proofs.Ytjononjpoeobcaa
