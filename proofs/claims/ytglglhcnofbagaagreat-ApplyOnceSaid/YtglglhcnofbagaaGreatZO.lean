/-
  ApplyOnce returns true for every input: a transaction that was carried out is refused by its sequence afterwards, also behind other transactions; the arguments read afterwards as before.
  Conditions: none beyond the statement's own: the bound on a word's bytes is the reading's own reach.
-/
import Derived.Test.YtglglhcnofbagaaGreatJ31
import Derived.WalkKit
import Derived.Test.YtglglhcnofbagaaGreatRows
import Derived.ProofKit
import Derived.OpenShut
import Derived.ShutString
import Derived.ChangeOld
import Derived.ChangeMaps5
import Derived.SizedLaws
import Derived.Below
namespace Go.Proofs.YtglglhcnofbagaaGreat.Lg
attribute [local irreducible] wpList wpQuiet
set_option maxRecDepth 100000
open Mo (usedV prioV mulB mulV)
open Go.RowKit
set_option linter.unusedSimpArgs false
set_option linter.unusedVariables false

theorem csi_old {w : World} {a : Option Addr} {L : List Int} (h : Cs w a (icells L)) (hne : icells L ≠ []) : ∀ x, a = some x → x.block < w.heap.size := cs_old h hne
section
variable (w : World) (gs g7 : Nat) (ak : Option Addr) (ck : Nat) (L : List Int) (b : Option Addr) (d : Nat) (R : List Int) (A : List Ac) (c : Int) (ad : Option Addr) (k m : Nat) (p : Int)
/-- What is kept from round to round. -/
structure OnL (V : World) : Prop where
 bel : Below w.heap.size w V
 ns : NS V gs ak ck L m
 rw : Rw V (gs + 1) b d R
 rb : R ≠ [] → ∀ x, b = some x → x.block < g7
 bx : Bx V g7 (lgA ad A.length k c) 25
 cs : Cs V ad (acc A)
 le : A.length ≤ k
 q : LdQ A c
 ps : Past A (decX R).1
 ne : acc A ≠ [] → ∀ x, ad = some x → x.block ≠ gs ∧ x.block ≠ g7
/-- What the round's last region keeps. -/
structure KO (b0 b3 b5 b6 b7 b8 b10 : Bool) (x56 x57 x58 : Value) (V : World) : Prop where
 bel : Below w.heap.size w V
 ns : NS V gs ak ck L (cond b5 (m + 45) m)
 rw : Rw V (gs + 1) b d R
 cs : Cs V ad (acc A)
 raw : b6 = false → b5 = true → ∃ b2 d2 R2, x56 = .slice b2 (List.length R2) d2 ∧ Rw V (gs + 1) b2 d2 R2
 old : b10 = false → Bx V g7 (lgA ad A.length k c) 25
 o60 : b6 = true → b0 = true
 o53 : b5 = true → b3 = true
 o65 : b6 = true → b5 = true
 o76 : b7 = true → b6 = true
 o87 : b8 = true → b7 = true
 oa8 : b10 = true → b8 = true
 new : b6 = true → ∃ (Q : List Ac) (c2 : Int) (r : Res) (a2 : Option Addr) (k2 : Nat), x57 = .tuple #[.agg (lgA a2 Q.length k2 c2), .agg (resA r)] ∧ Cs V a2 (acc Q) ∧ Q.length ≤ k2 ∧ LdQ Q c2 ∧ Past Q (decX R).1 ∧ (acc Q ≠ [] → ∀ x, a2 = some x → x.block ≠ gs ∧ x.block ≠ g7) ∧ (b8 = true → x58 = .agg (lgA a2 Q.length k2 c2)) ∧ (b10 = true → Bx V g7 (lgA a2 Q.length k2 c2) 25)
end
section
variable {w : World} {gs g7 : Nat} {ak : Option Addr} {ck : Nat} {L : List Int} {b : Option Addr} {d : Nat} {R : List Int} {A : List Ac} {c : Int} {ad : Option Addr} {k m : Nat} {p : Int}
variable {b0 b3 b5 b6 b7 b8 b10 : Bool} {x56 x57 x58 : Value} {V V2 : World}
theorem KO.start (h : OnL w gs g7 ak ck L b d R A c ad k m V) : KO w gs g7 ak ck L b d R A c ad k m false false false false false false false x56 x57 x58 V.drew :=
 ⟨h.bel.drew, h.ns, ⟨h.rw.sl, h.rw.le, h.rw.b, h.rw.n, h.rw.o⟩, h.cs, (fun _ e => nomatch e), fun _ => h.bx, (fun e => nomatch e), (fun e => nomatch e), (fun e => nomatch e), (fun e => nomatch e), (fun e => nomatch e), (fun e => nomatch e), (fun e => nomatch e)⟩
theorem KO.no0 (h : KO w gs g7 ak ck L b d R A c ad k m false b3 b5 b6 b7 b8 b10 x56 x57 x58 V) : b6 = false ∧ b7 = false ∧ b8 = false ∧ b10 = false := by
 obtain rfl := ff h.o60 rfl
 obtain rfl := ff h.o76 rfl
 obtain rfl := ff h.o87 rfl
 obtain rfl := ff h.oa8 rfl
 exact ⟨rfl, rfl, rfl, rfl⟩
theorem KO.no3 (h : KO w gs g7 ak ck L b d R A c ad k m b0 false b5 b6 b7 b8 b10 x56 x57 x58 V) : b5 = false ∧ b6 = false ∧ b7 = false ∧ b8 = false ∧ b10 = false := by
 obtain rfl := ff h.o53 rfl
 obtain rfl := ff h.o65 rfl
 obtain rfl := ff h.o76 rfl
 obtain rfl := ff h.o87 rfl
 obtain rfl := ff h.oa8 rfl
 exact ⟨rfl, rfl, rfl, rfl, rfl⟩
theorem KO.m0 (h : KO w gs g7 ak ck L b d R A c ad k m false b3 b5 b6 b7 b8 b10 x56 x57 x58 V) : KO w gs g7 ak ck L b d R A c ad k m true b3 b5 b6 b7 b8 b10 x56 x57 x58 V := { h with o60 := fun _ => rfl }
theorem KO.m3 (h : KO w gs g7 ak ck L b d R A c ad k m b0 false b5 b6 b7 b8 b10 x56 x57 x58 V) : KO w gs g7 ak ck L b d R A c ad k m b0 true b5 b6 b7 b8 b10 x56 x57 x58 V := { h with o53 := fun _ => rfl }
theorem KO.m7 (h : KO w gs g7 ak ck L b d R A c ad k m b0 b3 b5 true false b8 b10 x56 x57 x58 V) : KO w gs g7 ak ck L b d R A c ad k m b0 b3 b5 true true b8 b10 x56 x57 x58 V := { h with o76 := fun _ => rfl, o87 := fun _ => rfl }
theorem KO.mraw (h : KO w gs g7 ak ck L b d R A c ad k m b0 true false b6 b7 b8 b10 x56 x57 x58 V) (hgs : w.heap.size ≤ gs) (h7 : g7 ≠ gs) (hn : acc A ≠ [] → ∀ x, ad = some x → x.block ≠ gs) {b2 : Option Addr} {d2 : Nat} {R2 : List Int} (hr : Rw V2 V.heap.size b2 d2 R2) (hns : NS V2 gs ak ck L (m + 45)) (hb : But gs V V2) : KO w gs g7 ak ck L b d R A c ad k m b0 true true b6 b7 b8 b10 (.slice b2 R2.length d2) x57 x58 V2 := by
 obtain rfl := ff h.o65 rfl
 exact ⟨h.bel.trans (hb.1.mono hgs), hns, h.rw.but hb (Nat.lt_succ_self _), cs_butn h.cs hb hn, fun _ _ => ⟨b2, d2, R2, rfl, hr.base h.ns.lt⟩, fun e => (h.old e).but hb h7, h.o60, fun _ => rfl, (fun e => nomatch e), h.o76, h.o87, h.oa8, (fun e => nomatch e)⟩
theorem KO.mtx (h : KO w gs g7 ak ck L b d R A c ad k m true b3 true false b7 b8 b10 x56 x57 x58 V) (hle : A.length ≤ k) (hq : LdQ A c) (hps : Past A (decX R).1) (hne : acc A ≠ [] → ∀ x, ad = some x → x.block ≠ gs ∧ x.block ≠ g7) (hp : W64 p) : ∃ (b2 : Option Addr) (d2 : Nat) (R2 : List Int), x56 = .slice b2 (List.length R2) d2 ∧ Calls Tryz.prog 11 #[.agg (lgA ad A.length k c), .int .u64 p, .slice b2 (List.length R2) d2] V fun e V2 => ∃ v, e = .returned v ∧ KO w gs g7 ak ck L b d R A c ad k m true b3 true true b7 b8 b10 x56 v x58 V2 := by
 obtain ⟨b2, d2, R2, rfl, hr⟩ := h.raw rfl rfl
 obtain rfl := ff h.o76 rfl
 obtain rfl := ff h.o87 rfl
 obtain rfl := ff h.oa8 rfl
 refine ⟨b2, d2, R2, rfl, (tx_good hq hp h.cs hle hr.sl hr.le hr.b).mono fun e V2 z => ?_⟩
 obtain ⟨a2, k2, rfl, hc, hk, hbl, hb⟩ := z
 refine ⟨_, rfl, h.bel.trans (hb.mono h.bel.size), h.ns.below hb, h.rw.below hb, h.cs.below hb, (fun e => nomatch e), fun e => (h.old e).below (h.old e).lt hb, fun _ => rfl, h.o53, fun _ => rfl, (fun e => nomatch e), (fun e => nomatch e), (fun e => nomatch e), fun _ => ⟨_, _, _, a2, k2, rfl, hc, hk, hq.tx hp hr.b, past_on hps, fun hn x hx => ⟨blk_keep hbl (fun hn x hx => (hne hn x hx).1) h.ns.lt hn x hx, blk_keep hbl (fun hn x hx => (hne hn x hx).2) (h.old rfl).lt hn x hx⟩, (fun e => nomatch e), (fun e => nomatch e)⟩⟩
theorem KO.mext (h : KO w gs g7 ak ck L b d R A c ad k m b0 b3 b5 b6 true false b10 x56 x57 x58 V) : ∃ u y, x57 = .tuple #[u, y] ∧ KO w gs g7 ak ck L b d R A c ad k m b0 b3 b5 b6 true true b10 x56 x57 u V := by
 obtain rfl := h.o76 rfl
 obtain rfl := ff h.oa8 rfl
 obtain ⟨Q, c2, r, a2, k2, e, h1, h2, h3, h4, h5, h6, h7⟩ := h.new rfl
 exact ⟨_, _, e, { h with o87 := fun _ => rfl, oa8 := fun _ => rfl, new := fun _ => ⟨Q, c2, r, a2, k2, e, h1, h2, h3, h4, h5, fun _ => rfl, h7⟩ }⟩
theorem KO.ext2 (h : KO w gs g7 ak ck L b d R A c ad k m b0 b3 b5 b6 true b8 b10 x56 x57 x58 V) : ∃ u y, x57 = .tuple #[u, y] := by
 obtain rfl := h.o76 rfl
 obtain ⟨Q, c2, r, a2, k2, e, -⟩ := h.new rfl
 exact ⟨_, _, e⟩
theorem KO.mst (h : KO w gs g7 ak ck L b d R A c ad k m b0 b3 b5 b6 b7 true false x56 x57 x58 V) (hg7 : w.heap.size ≤ g7) (hgs : gs < g7) (hrb : R ≠ [] → ∀ x, b = some x → x.block < g7) (hak : L ≠ [] → ∀ x, ak = some x → x.block < g7) (hne : acc A ≠ [] → ∀ x, ad = some x → x.block ≠ gs ∧ x.block ≠ g7) : ∃ V2, (Instr.storeAt 25 (.pointer (some ⟨g7, 0, none⟩)) x58).run Tryz.prog V = .ok () V2 ∧ KO w gs g7 ak ck L b d R A c ad k m b0 b3 b5 b6 b7 true true x56 x57 x58 V2 := by
 obtain rfl := h.o87 rfl
 obtain rfl := h.o76 rfl
 obtain ⟨Q, c2, r, a2, k2, e, h1, h2, h3, h4, h5, h6, -⟩ := h.new rfl
 obtain rfl := h6 rfl
 have hst := store_lg (a' := a2) (n' := Q.length) (k' := k2) (c' := c2) (h.old rfl)
 have hbt : But g7 V (V.setRow g7 (lgA a2 Q.length k2 c2)) := But.setRow _ _
 exact ⟨_, hst.1, belowRow h.bel hg7 _, h.ns.but hbt hgs hak, h.rw.but2 hbt (fun hn x hx => by have := hrb hn x hx; omega), cs_butn h.cs hbt (fun hn x hx => (hne hn x hx).2), (fun e => nomatch e), (fun e => nomatch e), h.o60, h.o53, h.o65, h.o76, h.o87, fun _ => rfl, fun _ => ⟨Q, c2, r, a2, k2, e, cs_butn h1 hbt (fun hn x hx => (h5 hn x hx).2), h2, h3, h4, h5, fun _ => rfl, fun _ => hst.2⟩⟩
theorem KO.fin (h : KO w gs g7 ak ck L b d R A c ad k m true true true true true true true x56 x57 x58 V) (hrb : R ≠ [] → ∀ x, b = some x → x.block < g7) : ∃ (Q : List Ac) (c2 : Int) (r : Res) (a2 : Option Addr) (k2 : Nat), x57 = .tuple #[.agg (lgA a2 Q.length k2 c2), .agg (resA r)] ∧ OnL w gs g7 ak ck L b d R Q c2 a2 k2 (m + 45) V := by
 obtain ⟨Q, c2, r, a2, k2, e, h1, h2, h3, h4, h5, -, h7⟩ := h.new rfl
 exact ⟨Q, c2, r, a2, k2, e, h.bel, h.ns, h.rw, hrb, h7 rfl, h1, h2, h3, h4, h5⟩
end
set_option maxRecDepth 100000 in
set_option maxHeartbeats 8000000 in
theorem once_core (ak : Option Addr) (ck : Nat) (L : List Int) (w : World) (hl : L.length ≤ 9223372036854775807) (hk : Cs w ak (icells L)) :
  Calls Tryz.prog 6 #[.slice ak L.length ck] w fun e w' => e = .returned (.bool true) ∧ Below w.heap.size w w' := by
 have HNL := Lib.hid hl
 have HCK := Lib.hid hk
 have HAK : Hid (L ≠ [] → ∀ x, ak = some x → x.block < w.heap.size) := Lib.hid fun hne x hx => csi_old hk (by cases L with | nil => exact absurd rfl hne | cons y r => simp [icells]) x hx
 have HK := Lib.hid (fun (V : World) (h : Below w.heap.size w V) => (known_true q_tx V).mono fun e w' (q : e = .returned (.bool true) ∧ Below V.heap.size V w') => (⟨q.1, h.trans (q.2.mono h.size)⟩ : e = .returned (.bool true) ∧ Below w.heap.size w w'))
 clear hl hk
 go_enter Tryz.func6, Tryz.ntmps6
 go_upto_region 1 with fail
 have CLn := long_one w.heap.size ak L.length ck (w.alloc (.cells #[.slice ak L.length ck] 27)) (heap_alloc_last w _) HNL.out
 have hor := one_row ak L.length ck w
 have hb1 : Below w.heap.size w (w.alloc (.cells #[.slice ak L.length ck] 27)) := (Below.refl _ w).alloc (Nat.le_refl _) _
 have HCK1 := Lib.hid (HCK.out.below hb1)
 generalize w.alloc (.cells #[.slice ak L.length ck] 27) = W1 at *
 have HB1 := Lib.hid hb1
 clear hb1
 by_cases hL : 160 < L.length
 ·skip
  rw [decide_eq_true (by omega)] at CLn
  refine wl <| gz1 (.slice ak L.length ck) ?_
  simp only [pu]
  refine gw_build (by kernel_rfl) (some 13) rfl 67 1 #[(0, .tmp 12)] rfl #[(0, .slice ak L.length ck)] (by kernel_rfl) (.slice (some ⟨w.heap.size, 0, none⟩) 1 1) _ hor ?_
  simp only [pu]
  refine gzc (.bool true) (fun w' => W1 = w') CLn (fun W2 hW => ?_)
  subst hW
  simp only [pu]
  apply wpList_nil
  clear CLn hor
  go_upto_region 2 with fail
  refine wl <| gzc (.bool true) (fun w' => Below w.heap.size w w') (HK.out W1 (HB1.out)) (fun V9 hV9 => ?_)
  simp only [pu]
  refine gz1 (.bool true) <| wn ?_
  simp only [pu]
  have HE := Lib.hid hV9
  clear hV9
  go_wp2_with fail
  go_ret
  exact ⟨rfl, HE.out⟩
 rw [decide_eq_false (by omega)] at CLn
 refine wl <| gz1 (.slice ak L.length ck) ?_
 simp only [pu]
 refine gw_build (by kernel_rfl) (some 13) rfl 67 1 #[(0, .tmp 12)] rfl #[(0, .slice ak L.length ck)] (by kernel_rfl) (.slice (some ⟨w.heap.size, 0, none⟩) 1 1) _ hor ?_
 simp only [pu]
 refine gzc (.bool false) (fun w' => W1 = w') CLn (fun W2 hW => ?_)
 subst hW
 simp only [pu]
 apply wpList_nil
 clear CLn hor
 have CM := made_any ak ck L W1 HCK1.out (by omega)
 go_upto_region 3 with fail
 refine wl <| gz1 (.slice ak L.length ck) <|
  gze (fun v w' => ∃ la lk B cc p b d R gs, v = .tuple #[.agg (lgA la (List.length B) lk cc), .int .u64 p, .slice b (List.length R) d, .pointer (some ⟨gs, 0, none⟩)] ∧ Cs w' la (acc B) ∧ B.length ≤ lk ∧ LdQ B cc ∧ 0 ≤ p ∧ p ≤ 3 ∧ Rw w' (gs + 1) b d R ∧ NS w' gs ak ck L 160 ∧ W1.heap.size ≤ gs ∧ (acc B ≠ [] → ∀ x, la = some x → x.block ≠ gs) ∧ Below W1.heap.size W1 w') (CM.mono fun e w' q => by obtain ⟨la, lk, B, cc, p, b, d, R, gs, h1, h2⟩ := q; exact ⟨_, h1, la, lk, B, cc, p, b, d, R, gs, rfl, h2⟩) (fun vv V2 hq => ?_)
 obtain ⟨la, lk, B, cc, p, b, d, R, gs, rfl, hcs, hlk, hldq, hp0, hp3, hrw, hns, hgs, hne, hbm⟩ := hq
 obtain ⟨V3, hst3, hb3, hbx3⟩ := new_lg V2 la B.length lk cc
 simp only [pu]
 refine gz5 (.tuple #[.agg (lgA la B.length lk cc), .int .u64 p, .slice b R.length d, .pointer (some ⟨gs, 0, none⟩)]) (.agg (lgA la B.length lk cc)) (.int .u64 p) (.slice b R.length d) (.pointer (some ⟨gs, 0, none⟩)) ?_
 simp only [pu]
 refine run_to rfl (some 3) rfl (.pointer (some ⟨V2.heap.size, 0, none⟩)) (V2.alloc (.cells (lgA none 0 0 0) 25)) (by kernel_rfl) ?_
 simp only [pu]
 refine gzs rfl (hst3) <| gz3 (.int .u64 p) (.slice b R.length d) (.pointer (some ⟨gs, 0, none⟩)) <| wn ?_
 simp only [pu]
 obtain ⟨g3, hg3⟩ : ∃ g3, V2.heap.size = g3 := ⟨_, rfl⟩
 have hb13 := hbm.trans (hb3.mono hbm.size)
 have HLQ := Lib.hid hldq
 have HLK := Lib.hid hlk
 have HPW : Hid (W64 p) := Lib.hid ⟨hp0, by omega⟩
 have HP3 : Hid (0 ≤ p ∧ p ≤ 3) := Lib.hid ⟨hp0, hp3⟩
 have HGS : Hid (w.heap.size ≤ gs ∧ gs < g3 ∧ g3 < V3.heap.size) := Lib.hid ⟨Nat.le_trans HB1.out.size hgs, by rw [← hg3]; exact hns.lt, by rw [← hg3]; exact hbx3.lt⟩
 rw [hg3] at hbx3 ⊢
 have HX3 := Lib.hid hbx3
 have HBM := Lib.hid hb13
 have HB3 := Lib.hid (HB1.out.trans (hb13.mono HB1.out.size))
 have HC3 := Lib.hid (hcs.below hb3)
 have HRW3 := Lib.hid (hrw.below hb3)
 have HNS3 := Lib.hid (hns.below hb3)
 have HNE := Lib.hid hne
 have HRB : Hid (R ≠ [] → ∀ x, b = some x → x.block < g3) := Lib.hid fun h x hx => by rw [← hg3]; exact sl_lt hrw.sl h x hx
 have HLB : Hid (acc B ≠ [] → ∀ x, la = some x → x.block < g3) := Lib.hid fun h x hx => by rw [← hg3]; exact cs_old hcs h x hx
 clear CM hcs hlk hldq hp0 hp3 hrw hns hgs hne hbm hst3 hb3 hbx3 hb13 hg3
 obtain ⟨X, hX⟩ : ∃ X, txX B cc p R = X := ⟨_, rfl⟩
 have CT := tx_good HLQ.out HPW.out HC3.out HLK.out HRW3.out.sl HRW3.out.le HRW3.out.b
 rw [hX] at CT
 have HLX : Hid (LdQ X.1.1 X.1.2) := Lib.hid (by rw [← hX]; exact HLQ.out.tx HPW.out HRW3.out.b)
 have HPX : Hid (X.2.code = 0 → Past X.1.1 (decX R).1 ∧ (decX R).2 = 0) := Lib.hid fun h => by
  rw [← hX] at h ⊢
  refine ⟨past_done h, ?_⟩
  rcases tx_seq (A := B) (c := cc) (price := p) (L := R) with ⟨h1, -⟩ | ⟨-, -, -, h2, -⟩
  ·exact absurd h h1
  ·exact h2
 clear hX
 go_upto_region 4 with fail
 refine wl <| gzl rfl ⟨g3, 0, none⟩ (.agg (lgA la B.length lk cc)) (load_lg HX3.out) <| gz2 (.int .u64 p) (.slice b R.length d) <|
  gze (fun v w' => ∃ ad k, v = .tuple #[.agg (lgA ad X.1.1.length k X.1.2), .agg (resA X.2)] ∧ Cs w' ad (acc X.1.1) ∧ X.1.1.length ≤ k ∧ ((ad = la ∧ X.1.1 = B) ∨ ∀ x, ad = some x → V3.heap.size ≤ x.block) ∧ Below V3.heap.size V3 w') (CT.mono fun e w' q => by obtain ⟨ad, k, h1, h2⟩ := q; exact ⟨_, h1, ad, k, rfl, h2⟩) (fun vv V4 hq => ?_)
 obtain ⟨ad, k, rfl, hct, hkt, hbl, hbt⟩ := hq
 obtain ⟨Va, Vb, Vc, hVa, hlt, hs6, hs7, hb7, hx4, hx5⟩ := new_lr V4 ad X.1.1.length k X.1.2 X.2
 simp only [pu]
 refine gz3 (.tuple #[.agg (lgA ad X.1.1.length k X.1.2), .agg (resA X.2)]) (.agg (lgA ad X.1.1.length k X.1.2)) (.agg (resA X.2)) ?_
 simp only [pu]
 refine run_to rfl (some 7) rfl (.pointer (some ⟨V4.heap.size, 0, none⟩)) (V4.alloc (.cells (lgA none 0 0 0) 25)) (by kernel_rfl) ?_
 simp only [pu]
 rw [hVa]
 refine run_to rfl (some 8) rfl (.pointer (some ⟨Va.heap.size, 0, none⟩)) (Va.alloc (.cells (resA (zRes 0)) 39)) (by kernel_rfl) ?_
 simp only [pu]
 refine gzs rfl (hs6) <| gzs rfl (hs7) <| wn ?_
 obtain ⟨g7, hga⟩ : ∃ g, V4.heap.size = g := ⟨_, rfl⟩
 obtain ⟨g8, hgb⟩ : ∃ g, Va.heap.size = g := ⟨_, rfl⟩
 have hbA := hbt.trans (hb7.mono hbt.size)
 have hgV : V3.heap.size ≤ g7 := by rw [← hga]; exact hbt.size
 have hgl : g7 < g8 := by rw [← hga, ← hgb]; exact hlt
 rw [hga] at hx4 ⊢
 rw [hgb] at hx5 ⊢
 have hcA := hct.below hb7
 have hltA : acc X.1.1 ≠ [] → ∀ x, ad = some x → x.block < g7 := fun hn x hx => by rw [← hga]; exact cs_old hct hn x hx
 clear hVa hlt hs6 hs7 hct hbt hga hgb hb7
 have HG7 : Hid (w.heap.size ≤ g7 ∧ gs < g7 ∧ g3 < g7) := Lib.hid (by have := HGS.out; omega)
 have HX7 := Lib.hid hx4
 have HX8 := Lib.hid hx5
 have HBV := Lib.hid (HB3.out.trans (hbA.mono HB3.out.size))
 have HON := Lib.hid (fun (h : X.2.code = 0) => (⟨HBV.out, HNS3.out.below hbA, HRW3.out.below hbA, fun hn x hx => Nat.lt_trans (HRB.out hn x hx) HG7.out.2.2, HX7.out, hcA, hkt, HLX.out, (HPX.out h).1, fun hn x hx => ⟨blk_keep hbl HNE.out (by have := HGS.out; omega) hn x hx, by have := hltA hn x hx; omega⟩⟩ : OnL w gs g7 ak ck L b d R X.1.1 X.1.2 ad k 160 Vc))
 clear CT hgV hgl hx4 hx5 hbA hcA hltA hkt hbl HC3 HRW3 HNS3 HX3 HB3
 by_cases hc0 : X.2.code = 0
 ·skip
  go_upto_region 5 with fail
  refine wl <| gz1 (.pointer (some ⟨g8, 0, none⟩)) <| gzl rfl ⟨g8, 0, none⟩ (.int .i64 X.2.code) (HX8.out.load (i := 0) rfl (by kernel_rfl)) <| gzb (neq_e rfl X.2.code 0 (decide_eq_true hc0)) <| wn ?_
  simp only [pu]
  have HO := Lib.hid (HON.out hc0)
  have hd2 := (HPX.out hc0).2
  have HD2 := Lib.hid hd2
  obtain ⟨v, hv, CN⟩ := ns_next HO.out.ns (by omega) (by omega) 4 (by decide) (by decide)
  clear HON HPX hd2
  go_upto_region 7 with fail
  refine wl <| gz1 (.pointer (some ⟨gs, 0, none⟩)) <| gzc (.int .i64 v) (fun w' => NS w' gs ak ck L (160 + 1) ∧ But gs Vc w') (CN) (fun V8 hV8 => ?_)
  simp only [pu]
  refine gz1 (.int .i64 v) <| wn ?_
  simp only [pu]
  have HO8 : Hid (OnL w gs g7 ak ck L b d R X.1.1 X.1.2 ad k 161 V8) := Lib.hid ⟨HO.out.bel.trans (hV8.2.1.mono HGS.out.1), hV8.1, HO.out.rw.but hV8.2 (Nat.lt_succ_self _), HO.out.rb, HO.out.bx.but hV8.2 (by have := HG7.out; omega), cs_butn HO.out.cs hV8.2 (fun hn x hx => (HO.out.ne hn x hx).1), HO.out.le, HO.out.q, HO.out.ps, HO.out.ne⟩
  clear HO CN hV8 HX7 HX8 HBV HLX
  go_wp2_with fail
  go_loopg [9] (v + 1) (fun gg s9 wx => ∃ (i : Int) (A9 : List Ac) (c9 : Int) (a9 : Option Addr) (k9 m9 : Nat), s9 = .int .i64 i ∧ -1 ≤ i ∧ (m9 : Int) + 45 * (i + 1) ≤ 400 ∧ Hid (OnL w gs g7 ak ck L b d R A9 c9 a9 k9 m9 wx) ∧ (i + 1).toNat = gg)
  case atStart => exact ⟨v, X.1.1, X.1.2, ad, k, 161, rfl, by omega, by omega, HO8, by omega⟩
  case round =>
   obtain ⟨i, A9, c9, a9, k9, m9, rfl, hi, hm, HO, hg⟩ := hrel
   clear HO8
   by_cases hpos : 0 ≤ i
   ·skip
    obtain ⟨Y, hY⟩ : ∃ Y, txX A9 c9 p R = Y := ⟨_, rfl⟩
    have CT := tx_good HO.out.q HPW.out HO.out.cs HO.out.le HO.out.rw.sl HO.out.rw.le HO.out.rw.b
    have hno : Y.2.code = 14 := by rw [← hY]; exact (past_no HO.out.ps HO.out.q.v HD2.out).1
    rw [hY] at CT
    have HGI : Hid (0 ≤ i ∧ (m9 : Int) + 45 * (i + 1) ≤ 400) := Lib.hid ⟨hpos, hm⟩
    have HGM := Lib.hid hg
    clear hY hg
    go_upto_region 8 with fail
    refine wl <| gz1 (.int .i64 i) <| gzb (geq_n rfl i 0 (decide_eq_true hpos)) <| wn ?_
    simp only [pu]
    go_upto_region 10 with fail
    refine wl <| gzl rfl ⟨g7, 0, none⟩ (.agg (lgA a9 A9.length k9 c9)) (load_lg HO.out.bx) <| gz2 (.int .u64 p) (.slice b R.length d) <|
     gze (fun v w' => ∃ ad k, v = .tuple #[.agg (lgA ad Y.1.1.length k Y.1.2), .agg (resA Y.2)] ∧ Cs w' ad (acc Y.1.1) ∧ Y.1.1.length ≤ k ∧ ((ad = a9 ∧ Y.1.1 = A9) ∨ ∀ x, ad = some x → wr.heap.size ≤ x.block) ∧ Below wr.heap.size wr w') (CT.mono fun e w' q => by obtain ⟨ad, k, h1, h2⟩ := q; exact ⟨_, h1, ad, k, rfl, h2⟩) (fun vv V4 hq => ?_)
    obtain ⟨ad1, k1, rfl, hct, hkt, hbl, hbt⟩ := hq
    obtain ⟨Va, Vb, Vc, hVa, hlt, hs6, hs7, hb7, hx4, hx5⟩ := new_lr V4 ad1 Y.1.1.length k1 Y.1.2 Y.2
    simp only [pu]
    refine gz3 (.tuple #[.agg (lgA ad1 Y.1.1.length k1 Y.1.2), .agg (resA Y.2)]) (.agg (lgA ad1 Y.1.1.length k1 Y.1.2)) (.agg (resA Y.2)) ?_
    simp only [pu]
    refine run_to rfl (some 10) rfl (.pointer (some ⟨V4.heap.size, 0, none⟩)) (V4.alloc (.cells (lgA none 0 0 0) 25)) (by kernel_rfl) ?_
    simp only [pu]
    rw [hVa]
    refine run_to rfl (some 11) rfl (.pointer (some ⟨Va.heap.size, 0, none⟩)) (Va.alloc (.cells (resA (zRes 0)) 39)) (by kernel_rfl) ?_
    simp only [pu]
    refine gzs rfl (hs6) <| gzs rfl (hs7) <| wn ?_
    obtain ⟨g10, hga⟩ : ∃ g, V4.heap.size = g := ⟨_, rfl⟩
    obtain ⟨g11, hgb⟩ : ∃ g, Va.heap.size = g := ⟨_, rfl⟩
    have hbA := hbt.trans (hb7.mono hbt.size)
    have hgV : wr.heap.size ≤ g10 := by rw [← hga]; exact hbt.size
    have hgl : g10 < g11 := by rw [← hga, ← hgb]; exact hlt
    rw [hga] at hx4 ⊢
    rw [hgb] at hx5 ⊢
    have hcA := hct.below hb7
    have hltA : acc Y.1.1 ≠ [] → ∀ x, ad1 = some x → x.block < g10 := fun hn x hx => by rw [← hga]; exact cs_old hct hn x hx
    clear hVa hlt hs6 hs7 hct hbt hga hgb hb7
    go_upto_region 11 with fail
    refine wl <| gz1 (.pointer (some ⟨g11, 0, none⟩)) <| gzl rfl ⟨g11, 0, none⟩ (.int .i64 Y.2.code) (hx5.load (i := 0) rfl (by kernel_rfl)) <| gzb (neq_e rfl Y.2.code 14 (decide_eq_true hno)) <| wn ?_
    simp only [pu]
    have HO2 : Hid (OnL w gs g7 ak ck L b d R A9 c9 a9 k9 m9 Vc) := Lib.hid ⟨HO.out.bel.trans (hbA.mono HO.out.bel.size), HO.out.ns.below hbA, HO.out.rw.below hbA, HO.out.rb, HO.out.bx.below HO.out.bx.lt hbA, HO.out.cs.below hbA, HO.out.le, HO.out.q, HO.out.ps, HO.out.ne⟩
    clear HO CT hx4 hx5 hbA hcA hltA hkt hbl hgV hgl hno
    go_upto_region 13 with fail
    have h0 : KO w gs g7 ak ck L b d R A9 c9 a9 k9 m9 false false false false false false false u56 u57 u58 Vc.drew := KO.start HO2.out
    have HNB := Lib.hid HO2.out.ne
    have HLE := Lib.hid HO2.out.le
    have HQ9 := Lib.hid HO2.out.q
    have HPS := Lib.hid HO2.out.ps
    have HRB9 := Lib.hid HO2.out.rb
    have HAK7 : Hid (L ≠ [] → ∀ x, ak = some x → x.block < g7) := Lib.hid fun hn x hx => by have := HAK.out hn x hx; have := HG7.out; omega
    generalize Vc = Vd at *
    refine wp_region_inv (fun listed act9 V => ∃ b0 b1 b2 b3 b4 b5 b6 b7 b8 b9 b10 : Bool, ∃ x56 x57 x58 x59 : Value, listed = #[b0, b1, b2, b3, b4, b5, b6, b7, b8, b9, b10] ∧ act9 = { tmps := #[.slice ak L.length ck, undef, u2, .pointer (some ⟨g3, 0, none⟩), .int .u64 p, .slice b R.length d, .pointer (some ⟨gs, 0, none⟩), .pointer (some ⟨g7, 0, none⟩), .pointer (some ⟨g8, 0, none⟩), .int .i64 i, .pointer (some ⟨g10, 0, none⟩), .pointer (some ⟨g11, 0, none⟩), .slice ak L.length ck, .slice (some ⟨w.heap.size, 0, none⟩) 1 1, .bool false, undef, .tuple #[.agg (lgA la B.length lk cc), .int .u64 p, .slice b R.length d, .pointer (some ⟨gs, 0, none⟩)], .slice ak L.length ck, .tuple #[.agg (lgA la B.length lk cc), .int .u64 p, .slice b R.length d, .pointer (some ⟨gs, 0, none⟩)], .agg (lgA la B.length lk cc), .int .u64 p, .slice b R.length d, .pointer (some ⟨gs, 0, none⟩), .tuple #[.agg (lgA ad X.1.1.length k X.1.2), .agg (resA X.2)], .agg (lgA la B.length lk cc), .int .u64 p, .slice b R.length d, .tuple #[.agg (lgA ad X.1.1.length k X.1.2), .agg (resA X.2)], .agg (lgA ad X.1.1.length k X.1.2), .agg (resA X.2), .pointer (some ⟨g8, 0, none⟩), .int .i64 X.2.code, .bool false, undef, .pointer (some ⟨gs, 0, none⟩), .int .i64 v, .int .i64 i, .bool true, u38, u39, .tuple #[.agg (lgA ad1 Y.1.1.length k1 Y.1.2), .agg (resA Y.2)], .agg (lgA a9 A9.length k9 c9), .int .u64 p, .slice b R.length d, .tuple #[.agg (lgA ad1 Y.1.1.length k1 Y.1.2), .agg (resA Y.2)], .agg (lgA ad1 Y.1.1.length k1 Y.1.2), .agg (resA Y.2), .pointer (some ⟨g11, 0, none⟩), .int .i64 Y.2.code, .bool false, (cond b7 (x57) (u50)), (cond b0 (.agg (lgA a9 A9.length k9 c9)) (u51)), (cond b1 (.int .u64 p) (u52)), (cond b2 (.pointer (some ⟨gs, 0, none⟩)) (u53)), (cond b3 (.agg (lgA a9 A9.length k9 c9)) (u54)), (cond b4 (.int .u64 p) (u55)), x56, x57, x58, x59, undef], defers := [] } ∧ KO w gs g7 ak ck L b d R A9 c9 a9 k9 m9 b0 b3 b5 b6 b7 b8 b10 x56 x57 x58 V) (by kernel_rfl) (by kernel_rfl) ?_ ?_ ?_
    ·exact ⟨false, false, false, false, false, false, false, false, false, false, false, u56, u57, u58, u59, rfl, rfl, h0⟩
    ·intro i9 listed act9 V hi9 hr hJ
     obtain ⟨b0, b1, b2, b3, b4, b5, b6, b7, b8, b9, b10, x56, x57, x58, x59, rfl, rfl, hF⟩ := hJ
     have hi2 : i9 < 11 := hi9
     have hi3 : i9 = 0 ∨ i9 = 1 ∨ i9 = 2 ∨ i9 = 3 ∨ i9 = 4 ∨ i9 = 5 ∨ i9 = 6 ∨ i9 = 7 ∨ i9 = 8 ∨ i9 = 9 ∨ i9 = 10 := by omega
     rcases hi3 with rfl | rfl | rfl | rfl | rfl | rfl | rfl | rfl | rfl | rfl | rfl
     ·obtain rfl : b0 = false := ready_self hr
      obtain ⟨rfl, rfl, rfl, rfl⟩ := hF.no0
      refine st_load rfl (by kernel_rfl) (some 51) rfl 25 (.tmp 7) rfl ⟨g7, 0, none⟩ (.agg (lgA a9 A9.length k9 c9)) (by kernel_rfl) (load_lg (hF.old rfl)) ?_
      exact ⟨true, b1, b2, b3, b4, b5, false, false, false, b9, false, _, _, _, _, rfl, rfl, hF.m0⟩
     ·obtain rfl : b1 = false := ready_self hr
      refine st_val rfl (by kernel_rfl) (some 52) rfl (.int .u64 p) V (by kernel_rfl) ?_
      exact ⟨b0, true, b2, b3, b4, b5, b6, b7, b8, b9, b10, _, _, _, _, rfl, rfl, hF⟩
     ·obtain rfl : b2 = false := ready_self hr
      refine st_val rfl (by kernel_rfl) (some 53) rfl (.pointer (some ⟨gs, 0, none⟩)) V (by kernel_rfl) ?_
      exact ⟨b0, b1, true, b3, b4, b5, b6, b7, b8, b9, b10, _, _, _, _, rfl, rfl, hF⟩
     ·obtain rfl : b3 = false := ready_self hr
      obtain ⟨rfl, rfl, rfl, rfl, rfl⟩ := hF.no3
      refine st_load rfl (by kernel_rfl) (some 54) rfl 25 (.tmp 7) rfl ⟨g7, 0, none⟩ (.agg (lgA a9 A9.length k9 c9)) (by kernel_rfl) (load_lg (hF.old rfl)) ?_
      exact ⟨b0, b1, b2, true, b4, false, false, false, false, b9, false, _, _, _, _, rfl, rfl, hF.m3⟩
     ·obtain rfl : b4 = false := ready_self hr
      refine st_val rfl (by kernel_rfl) (some 55) rfl (.int .u64 p) V (by kernel_rfl) ?_
      exact ⟨b0, b1, b2, b3, true, b5, b6, b7, b8, b9, b10, _, _, _, _, rfl, rfl, hF⟩
     ·obtain rfl : b5 = false := ready_self hr
      obtain rfl : b2 = true := ready_dep hr 2 (by kernel_rfl)
      obtain rfl : b3 = true := ready_dep hr 3 (by kernel_rfl)
      obtain rfl : b4 = true := ready_dep hr 4 (by kernel_rfl)
      refine st_call rfl (by kernel_rfl) (some 56) rfl 24 #[.pointer (some ⟨gs, 0, none⟩), .agg (lgA a9 A9.length k9 c9), .int .u64 p] (by kernel_rfl) ((mk_raw (rc := k9) (co := c9) (p := p) hF.ns (by omega) (by simp only [cond_false]; have := HGI.out; omega) hF.cs (fun hne x hx => (HNB.out hne x hx).1) HQ9.out.q (by have := HQ9.out.n; omega)).mono fun e w' z => ?_)
      obtain ⟨bq, dq, Rq, rfl, hr, hn, hb⟩ := z
      exact ⟨_, rfl, b0, b1, true, true, true, true, b6, b7, b8, b9, b10, _, _, _, _, rfl, rfl, hF.mraw HGS.out.1 (by have := HG7.out; omega) (fun hne x hx => (HNB.out hne x hx).1) hr hn hb⟩
     ·obtain rfl : b6 = false := ready_self hr
      obtain rfl : b0 = true := ready_dep hr 0 (by kernel_rfl)
      obtain rfl : b1 = true := ready_dep hr 1 (by kernel_rfl)
      obtain rfl : b5 = true := ready_dep hr 5 (by kernel_rfl)
      obtain rfl : b7 = false := ff hF.o76 rfl
      obtain ⟨bq, dq, Rq, rfl, CT⟩ := hF.mtx HLE.out HQ9.out HPS.out HNB.out HPW.out
      refine st_call rfl (by kernel_rfl) (some 57) rfl 11 #[.agg (lgA a9 A9.length k9 c9), .int .u64 p, .slice bq (List.length Rq) dq] (by kernel_rfl) (CT.mono fun e w' z => ?_)
      obtain ⟨v, rfl, hF2⟩ := z
      exact ⟨_, rfl, true, true, b2, b3, b4, true, true, false, b8, b9, b10, _, _, _, _, rfl, rfl, hF2⟩
     ·obtain rfl : b7 = false := ready_self hr
      obtain rfl : b6 = true := ready_dep hr 6 (by kernel_rfl)
      refine st_val rfl (by kernel_rfl) (some 50) rfl x57 V (by kernel_rfl) ?_
      exact ⟨b0, b1, b2, b3, b4, b5, true, true, b8, b9, b10, _, _, _, _, rfl, rfl, hF.m7⟩
     ·obtain rfl : b8 = false := ready_self hr
      obtain rfl : b7 = true := ready_dep hr 7 (by kernel_rfl)
      obtain rfl : b6 = true := hF.o76 rfl
      obtain ⟨u, y, rfl, hF2⟩ := hF.mext
      refine st_val rfl (by kernel_rfl) (some 58) rfl u V (by kernel_rfl) ?_
      exact ⟨b0, b1, b2, b3, b4, b5, true, true, true, b9, b10, _, _, _, _, rfl, rfl, hF2⟩
     ·obtain rfl : b9 = false := ready_self hr
      obtain rfl : b7 = true := ready_dep hr 7 (by kernel_rfl)
      obtain ⟨u, y, rfl⟩ := hF.ext2
      refine st_val rfl (by kernel_rfl) (some 59) rfl y V (by kernel_rfl) ?_
      exact ⟨b0, b1, b2, b3, b4, b5, b6, true, b8, true, b10, _, _, _, _, rfl, rfl, hF⟩
     ·obtain rfl : b10 = false := ready_self hr
      obtain rfl : b8 = true := ready_dep hr 8 (by kernel_rfl)
      obtain ⟨V2, hst, hF2⟩ := hF.mst HG7.out.1 HG7.out.2.1 HRB9.out HAK7.out HNB.out
      refine st_storeA rfl (by kernel_rfl) rfl 25 (.tmp 7) (.tmp 58) rfl (.pointer (some ⟨g7, 0, none⟩)) (x58) (by kernel_rfl) (by kernel_rfl) _ hst ?_
      exact ⟨b0, b1, b2, b3, b4, b5, b6, b7, true, b9, true, _, _, _, _, rfl, rfl, hF2⟩
    ·intro act9 V hJ
     obtain ⟨b0, b1, b2, b3, b4, b5, b6, b7, b8, b9, b10, x56, x57, x58, x59, he, rfl, hF⟩ := hJ
     have he : (#[true, true, true, true, true, true, true, true, true, true, true] : Array Bool) = #[b0, b1, b2, b3, b4, b5, b6, b7, b8, b9, b10] := he
     simp only [Array.mk.injEq, List.cons.injEq, and_true] at he
     obtain ⟨rfl, rfl, rfl, rfl, rfl, rfl, rfl, rfl, rfl, rfl, rfl⟩ := he
     simp only [cond_true]
     obtain ⟨Q9, c8, r8, a8, k8, rfl, hon⟩ := hF.fin HRB9.out
     have HO9 := Lib.hid hon
     clear hF h0 hon HNB HLE HQ9 HPS HRB9 HAK7 HO2
     go_upto_region 9 with fail
     refine wl <| gz1 (.int .i64 i) <| gzw (.int .i64 (i - 1)) (sub_i rfl i 1 (by have := HGI.out; omega)) <| gz1 (.int .i64 (i - 1)) <| wn ?_
     simp only [pu]
     go_wp2_with fail
     go_roundg i.toNat
     case measure => have := HGI.out; have := HGM.out; omega
     case rel => exact ⟨i - 1, Q9, c8, a8, k8, m9 + 45, rfl, by omega, by have := HGI.out; omega, HO9, by omega⟩
   ·skip
    go_upto_region 8 with fail
    refine wl <| gz1 (.int .i64 i) <| gzb (geq_n rfl i 0 (decide_eq_false hpos)) <| wn ?_
    simp only [pu]
    go_upto_region 14 with fail
    refine wl <| gzc (.bool true) (fun w' => Below w.heap.size w w') (HK.out wr (HO.out.bel)) (fun V9 hV9 => ?_)
    simp only [pu]
    refine gz1 (.bool true) <| wn ?_
    simp only [pu]
    have HE := Lib.hid hV9
    clear hV9
    go_wp2_with fail
    go_ret
    exact ⟨rfl, HE.out⟩
 ·skip
  go_upto_region 5 with fail
  refine wl <| gz1 (.pointer (some ⟨g8, 0, none⟩)) <| gzl rfl ⟨g8, 0, none⟩ (.int .i64 X.2.code) (HX8.out.load (i := 0) rfl (by kernel_rfl)) <| gzb (neq_e rfl X.2.code 0 (decide_eq_false hc0)) <| wn ?_
  simp only [pu]
  go_upto_region 6 with fail
  refine wl <| gzc (.bool true) (fun w' => Below w.heap.size w w') (HK.out Vc (HBV.out)) (fun V9 hV9 => ?_)
  simp only [pu]
  refine gz1 (.bool true) <| wn ?_
  simp only [pu]
  have HE := Lib.hid hV9
  clear hV9
  go_wp2_with fail
  go_ret
  exact ⟨rfl, HE.out⟩
end Go.Proofs.YtglglhcnofbagaaGreat.Lg
namespace Go.Proofs.YtglglhcnofbagaaGreat.Lg.applyOnce
set_option maxRecDepth 100000
open Go.ChangeShapes Go.WideShapes Go.ChangeAt Go.RowKit
set_option linter.unusedVariables false

theorem own : ownKnob Tryz.prog.godebug = none := by kernel_rfl
theorem size_list (x : ByteArray) : x.data.toList.length = x.size := Array.length_toList
theorem laidOut : laidOutB Tryz.prog = true := by kernel_rfl

theorem walk (a0 : Option Addr) (c0 : Nat) (L0 : List Int) (w : World) (l0 : L0.length ≤ 9223372036854775807) (r0 : Cs w a0 (icells L0)) :
    Calls Tryz.prog 6 #[.slice a0 L0.length c0] w fun e w' => e = .returned (.bool true) ∧ Below w.heap.size w w' := by
  exact once_core a0 c0 L0 w l0 r0

set_option maxRecDepth 100000 in
set_option maxHeartbeats 1000000 in
theorem contract (H : Type) (enc : TypeId × Value → H) (W : World) (base : Nat) (args : Array Value) (ds gs : List (DataW H)) (before : List MemPlace)
    (hval0 : ∀ (j : Nat) t v, Tryz.f6.params[j]? = some t → args[j]? = some v → Value.okWide Tryz.prog W .any base t v)
    (hW : DataW.Whole enc Tryz.prog Tryz.f6.params.toList Rows.applyOnceSpec.vars false W args.toList ds gs before)
    (hz : (DataW.weightsEach Tryz.prog (Tryz.f6.params.toList ++ Rows.applyOnceSpec.plain.varTypes Tryz.prog) (ds ++ gs)).all (· ≤ reachBytes) = true) :
    Calls Tryz.prog 6 args W fun e W' => ∃ v, e = .returned v ∧ Rows.applyOnceSpec.post enc Tryz.prog Tryz.f6 false true false false W args v W' := by
  have hval := hval0
  have hW' := hW
  obtain ⟨p, q, hA0, hV, rfl, hfz, hnd⟩ := hW
  have hA := hA0
  rw [Tryz.params6] at hA hval
  obtain ⟨v0, vs0, d0, ds0, p0, q0, hargs, rfl, rfl, h0, rr0⟩ := trodAll_cons hA
  obtain ⟨rfl, rfl, rfl⟩ := trodAll_nil rr0
  obtain rfl : args = #[v0] := by cases args; simp_all
  obtain ⟨rfl, rfl⟩ := trodVars_none hV
  have k0 := h0
  have lt0 : ∀ x ∈ p0, x.block < W.heap.size := by obtain ⟨m, hm⟩ := k0; exact DataW.trod_lt m _ _ _ hm
  obtain ⟨a0, _, c0, rfl⟩ := okWide_slice Tryz.underlying27 (hval 0 27 v0 rfl rfl)
  obtain ⟨_, hf0⟩ := h0
  obtain ⟨_, _, L0, e0, l0, r0⟩ := ints_arg hf0
  simp only [Value.cells, List.cons.injEq, Value.slice.injEq, and_true] at e0
  obtain ⟨rfl, rfl, rfl⟩ := e0
  clear hA0 hval0
  refine (walk a0 c0 L0 W l0 r0).mono fun e W' ⟨he, bel⟩ => ?_
  subst he
  exact ⟨_, rfl, _, _, _, [], _, [], hW', trodAll_mk1 (shut_bool Tryz.underlying4 _), (trodAll_cons_mk (Below.trod laidOut (by kernel_rfl) (of_decide_eq_true (by kernel_rfl)) k0 bel lt0) trodAll_mk0), rfl, bel.frame _, fun h => by cases h⟩

set_option maxRecDepth 100000 in
theorem lifted (os : Os) (started : os.Started) (H : Type) (enc : TypeId × Value → H) :
    ReturnsInHanded {} Tryz.checked os 6 .any (Rows.applyOnceSpec.pre6 enc Tryz.prog Tryz.f6 Rows.applyOnceRow.domain false) (Rows.applyOnceSpec.post enc Tryz.prog Tryz.f6 false true false false) := by
  refine returnsInHanded_of_change_sized (C := Tryz.checked) own started (by kernel_rfl) Tryz.func6
    (ChangeSpec.witness6 (enc := enc) (C := Tryz.checked) false ⟨#[], #[.slice none 0 0], []⟩ 8 (by kernel_rfl) (by kernel_rfl) (by kernel_rfl) (by kernel_rfl)) ?_
  intro W base args ds gs before hval hW _ hz _
  exact contract H enc W base args ds gs before hval hW hz

/-- THE STATEMENT -/
theorem proved : Rows.ApplyOnceSaid :=
  OpenClaim.holds_of_wide 6 Tryz.f6 rfl rfl rfl rfl rfl rfl rfl ⟨rfl, rfl, rfl, rfl, rfl⟩ rfl rfl rfl rfl rfl (by kernel_rfl) Tryz.func6 (by kernel_rfl)
    (of_decide_eq_true (by kernel_rfl)) (by unfold Func.isWrapper; first | (rw [if_pos (by decide +kernel)]; kernel_rfl) | (rw [if_neg (by decide +kernel)]; exact ⟨rfl, rfl⟩))
    (fun os started H enc _ => lifted os started H enc)
#print axioms proved
end Go.Proofs.YtglglhcnofbagaaGreat.Lg.applyOnce
