/-
  The statements' App: contract. The statements' made: contract. Sequences: what a transaction does to them; a transaction that was carried out is refused afterwards. The statements' small: contract. What the laws' walks share. Arguments opened: a slice of ints, an account, accounts, a ledger.
 Conditions: none of their own.
-/
import Derived.Test.YtglglhcnofbagaaGreatK29
import Derived.Test.YtglglhcnofbagaaGreatK26
import Derived.Test.YtglglhcnofbagaaGreatK24
import Derived.Test.YtglglhcnofbagaaGreatRows
import Derived.ProofKit
import Derived.OpenShut
import Derived.ChangeOld
import Derived.Below
import Derived.SizedLaws
import Derived.Deep.Strs
import Derived.Deep.Slices
namespace Go.Proofs.YtglglhcnofbagaaGreat.Lg
attribute [local irreducible] wpList wpQuiet
set_option maxRecDepth 100000
open Mo (usedV prioV mulB mulV)
open Go.RowKit
set_option linter.unusedSimpArgs false
set_option linter.unusedVariables false

/-- An application value whose check ledger is good and lies in none of three blocks. -/
def AppG (lo g g2 g3 : Nat) (p : Int) (V : World) (v : Value) : Prop := ∃ x0 x1 la lk y0 y1 y2 B cc, v = .agg (appA x0 x1 la (List.length B) lk cc y0 y1 y2 p) ∧ (appA x0 x1 la (List.length B) lk cc y0 y1 y2 p).all (·.oneCell') = true ∧ Cs V la (acc B) ∧ B.length ≤ lk ∧ LdQ B cc ∧ (acc B ≠ [] → ∀ x, la = some x → x.block ≠ g ∧ x.block ≠ g2 ∧ x.block ≠ g3 ∧ lo ≤ x.block)
theorem AppG.below {lo g g2 g3 : Nat} {p : Int} {V V2 : World} {v : Value} (h : AppG lo g g2 g3 p V v) (hb : Below V.heap.size V V2) : AppG lo g g2 g3 p V2 v := by
 obtain ⟨x0, x1, la, lk, y0, y1, y2, B, cc, h1, h2, h3, h4⟩ := h
 exact ⟨x0, x1, la, lk, y0, y1, y2, B, cc, h1, h2, h3.below hb, h4⟩
theorem AppG.but {lo g g2 g3 q : Nat} {p : Int} {V V2 : World} {v : Value} (h : AppG lo g g2 g3 p V v) (hb : But q V V2) (hq : q = g ∨ q = g2 ∨ q = g3) : AppG lo g g2 g3 p V2 v := by
 obtain ⟨x0, x1, la, lk, y0, y1, y2, B, cc, h1, h2, h3, h4, h5, h6⟩ := h
 refine ⟨x0, x1, la, lk, y0, y1, y2, B, cc, h1, h2, cs_butn h3 hb (fun hne x hx => ?_), h4, h5, h6⟩
 obtain ⟨n1, n2, n3, -⟩ := h6 hne x hx
 rcases hq with rfl | rfl | rfl <;> assumption
/-- The region in which a transaction is made and accepted. -/
structure KA (w : World) (g g2 g3 : Nat) (a : Option Addr) (c : Nat) (L : List Int) (k : Nat) (p : Int) (av : Array Value) (la : Option Addr) (B : List Ac) (b0 b3 b5 b6 b7 b8 : Bool) (x30 x31 : Value) (V : World) : Prop where
 but : But g w V
 ns : NS V g a c L (cond b6 (k + 45) k)
 led : Cs V la (acc B)
 bx2 : Bx V g2 #[.slice none 0 0, .int .u64 0, .slice none 0 0, .int .u64 0, .slice none 0 0, .int .u64 0, .bool false, .int .u64 0] 70
 bx : b8 = false → Bx V g3 av 70
 rw : b6 = true → b7 = false → ∃ b d R, x30 = .slice b (List.length R) d ∧ Rw V w.heap.size b d R
 ap : b7 = true → AppG w.heap.size g g2 g3 p V x31
 st : b8 = true → ∃ cs, x31 = .agg cs ∧ Bx V g3 cs 70
 o7 : b7 = true → b6 = true
 o8 : b8 = true → b0 = true ∧ b3 = true ∧ b5 = true ∧ b7 = true
section
variable {w : World} {g g2 g3 : Nat} {a : Option Addr} {c : Nat} {L : List Int} {k : Nat} {p : Int} {av : Array Value} {la : Option Addr} {B : List Ac} {b0 b3 b5 b6 b7 b8 : Bool} {x30 x31 : Value} {V : World}
theorem KA.n8 (h : KA w g g2 g3 a c L k p av la B b0 b3 b5 b6 b7 b8 x30 x31 V) (hf : b0 = false ∨ b3 = false ∨ b5 = false ∨ b7 = false) : b8 = false := by
 cases b8
 ·rfl
 ·obtain ⟨h0, h3, h5, h7⟩ := h.o8 rfl
  rcases hf with e | e | e | e
  ·rw [e] at h0; cases h0
  ·rw [e] at h3; cases h3
  ·rw [e] at h5; cases h5
  ·rw [e] at h7; cases h7
theorem KA.up0 (h : KA w g g2 g3 a c L k p av la B b0 b3 b5 b6 b7 b8 x30 x31 V) : KA w g g2 g3 a c L k p av la B true b3 b5 b6 b7 b8 x30 x31 V := { h with o8 := fun e => ⟨rfl, (h.o8 e).2⟩ }
theorem KA.up3 (h : KA w g g2 g3 a c L k p av la B b0 b3 b5 b6 b7 b8 x30 x31 V) : KA w g g2 g3 a c L k p av la B b0 true b5 b6 b7 b8 x30 x31 V := { h with o8 := fun e => ⟨(h.o8 e).1, rfl, (h.o8 e).2.2⟩ }
theorem KA.up5 (h : KA w g g2 g3 a c L k p av la B b0 b3 b5 b6 b7 b8 x30 x31 V) : KA w g g2 g3 a c L k p av la B b0 b3 true b6 b7 b8 x30 x31 V := { h with o8 := fun e => ⟨(h.o8 e).1, (h.o8 e).2.1, rfl, (h.o8 e).2.2.2⟩ }
theorem KA.start (hb : But g w V) (hn : NS V g a c L k) (h3 : Cs V la (acc B)) (h2 : Bx V g2 #[.slice none 0 0, .int .u64 0, .slice none 0 0, .int .u64 0, .slice none 0 0, .int .u64 0, .bool false, .int .u64 0] 70) (h4 : Bx V g3 av 70) : KA w g g2 g3 a c L k p av la B false false false false false false x30 x31 V.drew :=
 ⟨⟨hb.1.drew, hb.2⟩, hn, h3, h2, fun _ => h4, (fun e => nomatch e), (fun e => nomatch e), (fun e => nomatch e), (fun e => nomatch e), (fun e => nomatch e)⟩
theorem acp_ne {lo : Nat} {la2 : Option Addr} {B2 : List Ac} (hbl2 : (la2 = la ∧ B2 = B) ∨ ∀ x, la2 = some x → V.heap.size ≤ x.block) (hB : acc B ≠ [] → ∀ x, la = some x → x.block ≠ g ∧ x.block ≠ g2 ∧ x.block ≠ g3 ∧ lo ≤ x.block) (h1 : g < V.heap.size) (h2 : g2 < V.heap.size) (h3 : g3 < V.heap.size) (h4 : lo ≤ V.heap.size) : acc B2 ≠ [] → ∀ x, la2 = some x → x.block ≠ g ∧ x.block ≠ g2 ∧ x.block ≠ g3 ∧ lo ≤ x.block := fun hne x hx => by
 rcases hbl2 with ⟨rfl, e2⟩ | h9
 ·rw [e2] at hne
  exact hB hne x hx
 ·have := h9 x hx
  omega
theorem KA.raw (h : KA w g g2 g3 a c L k p av la B b0 b3 b5 false b7 b8 x30 x31 V) (hg : g < w.heap.size) (h2 : g2 ≠ g) (h3 : g3 ≠ g) (hn : acc B ≠ [] → ∀ x, la = some x → x.block ≠ g) {V2 : World} {b : Option Addr} {d : Nat} {R : List Int} (hr : Rw V2 w.heap.size b d R) (hns : NS V2 g a c L (k + 45)) (hb : But g V V2) : KA w g g2 g3 a c L k p av la B b0 b3 b5 true b7 b8 (.slice b R.length d) x31 V2 := by
 obtain rfl := ff h.o7 rfl
 have e8 := h.n8 (.inr (.inr (.inr rfl)))
 subst e8
 exact ⟨h.but.trans hb, hns, cs_butn h.led hb hn, h.bx2.but hb h2, fun e => (h.bx e).but hb h3, fun _ _ => ⟨b, d, R, rfl, hr⟩, (fun e => nomatch e), (fun e => nomatch e), fun _ => rfl, (fun e => nomatch e)⟩
theorem KA.acp (h : KA w g g2 g3 a c L k p av la B b0 b3 b5 true false b8 x30 x31 V) (hg : g < w.heap.size) {V2 : World} {v : Value} (hv : AppG w.heap.size g g2 g3 p V2 v) (hb : Below V.heap.size V V2) : KA w g g2 g3 a c L k p av la B b0 b3 b5 true true b8 x30 v V2 := by
 have e8 := h.n8 (.inr (.inr (.inr rfl)))
 subst e8
 exact ⟨h.but.more (hb.mono h.but.1.size) (Nat.le_of_lt hg), h.ns.below hb, h.led.below hb, h.bx2.below h.bx2.lt hb, fun e => (h.bx e).below (h.bx e).lt hb, (fun _ e => nomatch e), fun _ => hv, (fun e => nomatch e), fun _ => rfl, (fun e => nomatch e)⟩
theorem KA.store (h : KA w g g2 g3 a c L k p av la B true true true true true false x30 x31 V) (hg : g < w.heap.size) (h23 : g2 ≠ g3) (h3 : w.heap.size ≤ g3) (hgg : g3 ≠ g) (hsz : av.size = 8) (hla : acc B ≠ [] → ∀ x, la = some x → x.block ≠ g3) (ha : L ≠ [] → ∀ x, a = some x → x.block < w.heap.size) : ∃ cs V2, x31 = .agg cs ∧ (Instr.storeAt 70 (.pointer (some ⟨g3, 0, none⟩)) (.agg cs)).run Tryz.prog V = .ok () V2 ∧ KA w g g2 g3 a c L k p av la B true true true true true true x30 (.agg cs) V2 := by
 obtain ⟨x0, x1, la2, lk, y0, y1, y2, B2, cc, rfl, h2, h3', h4⟩ := h.ap rfl
 obtain ⟨hst, hY⟩ := store_app (h.bx rfl) hsz h2
 have hbt : But g3 V (V.setRow g3 (appA x0 x1 la2 B2.length lk cc y0 y1 y2 p)) := But.setRow _ _
 exact ⟨_, _, rfl, hst, But.trans_off h.but hbt h3 (by omega), h.ns.but hbt (by omega) (fun e x hx => by have := ha e x hx; omega), cs_butn h.led hbt hla, h.bx2.but hbt h23, (fun e => nomatch e), (fun _ e => nomatch e), fun _ => (show AppG w.heap.size g g2 g3 p _ _ from (h.ap rfl).but hbt (.inr (.inr rfl))), fun _ => ⟨_, rfl, hY⟩, fun _ => rfl, fun _ => ⟨rfl, rfl, rfl, rfl⟩⟩
end
theorem conv_i6 {ρ : Operand → Value} {o : Oper} {x : Operand} (ho : o.op = .convert 3 23 x) (a : Nat) (h1 : a ≤ 1000000) (hx : ρ x = .int .i64 a) (w : World) : (execOp ρ o).run Tryz.prog w = .ok (.value (.int .u64 a)) w := by
 have hw : IntKind.u64.wrap (a : Int) = a := by rw [IntKind.wrap_u64]; omega
 unfold execOp
 simp only [ho, hx]
 go_simp
theorem init_any {w : World} {A : List Ac} {v10 : Nat} {e : Ending} {w' : World} (hv : (v10 : Int) ≤ 3) (hw : AcW A) (q : IniO w (genX A) v10 e w') : ∃ v, e = .returned v ∧ (∃ x0 x1 la lk y0 y1 y2 B cc p ee, v = .tuple #[.agg (appA x0 x1 la (List.length B) lk cc y0 y1 y2 p), .int .i64 ee] ∧ (appA x0 x1 la (List.length B) lk cc y0 y1 y2 p).all (·.oneCell') = true ∧ Cs w' la (acc B) ∧ B.length ≤ lk ∧ LdQ B cc ∧ (acc B ≠ [] → ∀ x, la = some x → w.heap.size ≤ x.block) ∧ 0 ≤ p ∧ p ≤ 3 ∧ Below w.heap.size w w') := by
 rcases q with ⟨h0, a, k, h1, h2, h3, h4, h5⟩ | ⟨h0, h1, h2⟩
 ·obtain ⟨q1, q2⟩ := genX_ok h0
  exact ⟨_, h1, _, _, a, k, _, _, _, (genX A).1, 0, v10, 0, rfl, by simp [Value.oneCell'], h2, h3, ⟨q1, genX_w hw, w64_0⟩, fun _ => h4, by omega, hv, h5⟩
 ·exact ⟨_, h1, _, _, none, 0, _, _, _, [], 0, 0, (genX A).2, rfl, by simp [Value.oneCell'], Cs.nil _ _, Nat.le_refl _, LdQ.nil, fun h => absurd rfl h, by omega, by omega, h2⟩
def AppM (w : World) (g : Nat) (a : Option Addr) (c : Nat) (L : List Int) (k : Nat) (e : Ending) (w' : World) : Prop := ∃ v p g2 g3, e = .returned v ∧ AppG w.heap.size g g2 g3 p w' v ∧ 0 ≤ p ∧ p ≤ 3 ∧ NS w' g a c L (k + 110) ∧ But g w w'
theorem AppG.zero (lo g g2 g3 : Nat) (V : World) : AppG lo g g2 g3 0 V (.agg #[.slice none 0 0, .int .u64 0, .slice none 0 0, .int .u64 0, .slice none 0 0, .int .u64 0, .bool false, .int .u64 0]) := ⟨_, _, none, 0, _, _, _, [], 0, rfl, by simp [Value.oneCell'], Cs.nil _ _, Nat.le_refl _, LdQ.nil, fun h => absurd rfl h⟩
set_option maxRecDepth 100000 in
set_option maxHeartbeats 8000000 in
theorem mk_app {w : World} {g c k : Nat} {a : Option Addr} {L : List Int} (h : NS w g a c L k) (hl : L.length ≤ 100000) (hk : k ≤ 5000) :
  Calls Tryz.prog 26 #[.pointer (some ⟨g, 0, none⟩)] w (AppM w g a c L k) := by
 have hb0 : Below w.heap.size w (w.alloc (.cells #[.slice none 0 0, .int .u64 0, .slice none 0 0, .int .u64 0, .slice none 0 0, .int .u64 0, .bool false, .int .u64 0] 70)) := (Below.refl _ w).alloc (Nat.le_refl _) _
 have hX0 : Bx (w.alloc (.cells #[.slice none 0 0, .int .u64 0, .slice none 0 0, .int .u64 0, .slice none 0 0, .int .u64 0, .bool false, .int .u64 0] 70)) w.heap.size #[.slice none 0 0, .int .u64 0, .slice none 0 0, .int .u64 0, .slice none 0 0, .int .u64 0, .bool false, .int .u64 0] 70 := heap_alloc_last w _
 have HGW := Lib.hid h.lt
 have HAB := Lib.hid (fun h1 x hx => h.ab h1 x hx)
 have CA := mk_accounts (h.below hb0) hl (by omega : k ≤ 10000)
 go_enter Tryz.func26, Tryz.ntmps26
 go_upto_region 1 with fail
 change Code.wp _ _ _ _ (w.alloc (.cells #[.slice none 0 0, .int .u64 0, .slice none 0 0, .int .u64 0, .slice none 0 0, .int .u64 0, .bool false, .int .u64 0] 70))
 generalize w.alloc (.cells #[.slice none 0 0, .int .u64 0, .slice none 0 0, .int .u64 0, .slice none 0 0, .int .u64 0, .bool false, .int .u64 0] 70) = W at *
 obtain ⟨g2, hg2⟩ : ∃ g2, w.heap.size = g2 := ⟨_, rfl⟩
 have HB0 := Lib.hid hb0
 have HG2 : Hid (w.heap.size ≤ g2 ∧ g2 < W.heap.size ∧ g < g2) := Lib.hid ⟨by omega, by have := hX0.lt; omega, by have := HGW.out; omega⟩
 rw [hg2] at hX0
 simp only [hg2]
 have HX0 := Lib.hid hX0
 clear hb0 hg2 h hX0
 refine wl <| gz1 (.pointer (some ⟨g, 0, none⟩)) <|
  gze (fun v w' => ∃ ra rc A, v = .slice ra (List.length A) rc ∧ RowA w' W.heap.size (.slice ra A.length rc) A ∧ (∀ x, x ∈ A → AcQ x) ∧ A.length ≤ 4 ∧ NS w' g a c L (k + 13) ∧ But g W w') (CA.mono fun e w' q => by obtain ⟨ra, rc, A, h1, h2⟩ := q; exact ⟨_, h1, ra, rc, A, rfl, h2⟩) (fun vv W1 hq => ?_)
 obtain ⟨ra, rc, A, rfl, hrow, hAq, hA4, hns1, hbt1⟩ := hq
 obtain ⟨v10, hv10, CN⟩ := ns_next hns1 hl (by omega) 3 (by decide) (by decide)
 simp only [pu]
 refine gz1 (.pointer (some ⟨g, 0, none⟩)) <| gzc (.int .i64 v10) (fun w' => NS w' g a c L (k + 13 + 1) ∧ But g W1 w') CN (fun W2 hq => ?_)
 obtain ⟨hns2, hbt2⟩ := hq
 have hrow2 := own_but hrow hbt2 (by have := HG2.out; omega)
 obtain ⟨a9, c9, e9, hcs2, -⟩ := own_cs hrow2
 simp only [Value.slice.injEq, true_and] at e9
 obtain ⟨rfl, rfl⟩ := e9
 have CI := ref_init A ra rc v10 W2 hcs2 (by omega) (acw_of fun x hx => (hAq x hx).2) (fun x hx => Nat.le_trans (hAq x hx).1.2 (by decide))
 simp only [pu]
 refine gzv (.int .u64 v10) (conv_i6 rfl v10 (by omega) (by kernel_rfl) _) <|
  gze (fun v w' => ∃ x0 x1 la lk y0 y1 y2 B cc p ee, v = .tuple #[.agg (appA x0 x1 la (List.length B) lk cc y0 y1 y2 p), .int .i64 ee] ∧ (appA x0 x1 la (List.length B) lk cc y0 y1 y2 p).all (·.oneCell') = true ∧ Cs w' la (acc B) ∧ B.length ≤ lk ∧ LdQ B cc ∧ (acc B ≠ [] → ∀ x, la = some x → W2.heap.size ≤ x.block) ∧ 0 ≤ p ∧ p ≤ 3 ∧ Below W2.heap.size W2 w') (CI.mono fun e w' q => init_any (by omega) (acw_of fun x hx => (hAq x hx).2) q) (fun vv W3 hq => ?_)
 obtain ⟨x0, x1, la, lk, y0, y1, y2, B, cc, p, ee, rfl, hone, hcs3, hlk, hlq, hbl3, hp0, hp3, hb3⟩ := hq
 obtain ⟨hst3, hY3⟩ := store_app (heap_alloc_last W3 _ : Bx (W3.alloc (.cells #[.slice none 0 0, .int .u64 0, .slice none 0 0, .int .u64 0, .slice none 0 0, .int .u64 0, .bool false, .int .u64 0] 70)) W3.heap.size _ 70) rfl hone
 simp only [pu]
 refine gz3 (.tuple #[.agg (appA x0 x1 la B.length lk cc y0 y1 y2 p), .int .i64 ee]) (.agg (appA x0 x1 la B.length lk cc y0 y1 y2 p)) (.int .i64 ee) ?_
 simp only [pu]
 refine run_to rfl (some 3) rfl (.pointer (some ⟨W3.heap.size, 0, none⟩)) (W3.alloc (.cells (#[.slice none 0 0, .int .u64 0, .slice none 0 0, .int .u64 0, .slice none 0 0, .int .u64 0, .bool false, .int .u64 0]) 70)) (by kernel_rfl) ?_
 simp only [pu]
 refine gzs rfl (hst3) <| gz1 (.int .i64 ee) <| wn ?_
 simp only [pu]
 have hbA : Below W3.heap.size W3 ((W3.alloc (.cells #[.slice none 0 0, .int .u64 0, .slice none 0 0, .int .u64 0, .slice none 0 0, .int .u64 0, .bool false, .int .u64 0] 70)).setRow W3.heap.size (appA x0 x1 la B.length lk cc y0 y1 y2 p)) := belowRow ((Below.refl _ W3).alloc (Nat.le_refl _) _) (Nat.le_refl _) _
 generalize (W3.alloc (.cells #[.slice none 0 0, .int .u64 0, .slice none 0 0, .int .u64 0, .slice none 0 0, .int .u64 0, .bool false, .int .u64 0] 70)).setRow W3.heap.size (appA x0 x1 la B.length lk cc y0 y1 y2 p) = V4 at *
 obtain ⟨g3, hg3⟩ : ∃ g3, W3.heap.size = g3 := ⟨_, rfl⟩
 have hbt12 := hbt1.trans hbt2
 have hs12 := hbt12.1.size
 have hszW : W.heap.size ≤ W2.heap.size := Nat.le_trans hbt1.1.size hbt2.1.size
 have hg2a := HG2.out
 have hb34 := hb3.trans (hbA.mono hb3.size)
 have HG3 : Hid (g2 < g3 ∧ w.heap.size ≤ g3 ∧ g3 < V4.heap.size) := Lib.hid ⟨by have := hb3.size; omega, by have := hb3.size; omega, by have := hY3.lt; omega⟩
 rw [hg3] at hY3 ⊢
 have HNS := Lib.hid (hns2.below hb34)
 have HBT := Lib.hid (((But.of_below HB0.out (Nat.le_of_lt HGW.out)).trans hbt12).more (hb34.mono (by have := HB0.out.size; omega)) (Nat.le_of_lt HGW.out))
 have HX24 := Lib.hid (((HX0.out.but hbt12 (by omega)).below (by omega : g2 < W2.heap.size) hb34))
 have HAG : Hid (AppG w.heap.size g g2 g3 p V4 (.agg (appA x0 x1 la B.length lk cc y0 y1 y2 p))) := Lib.hid ⟨x0, x1, la, lk, y0, y1, y2, B, cc, rfl, hone, hcs3.below hbA, hlk, hlq, fun hne x hx => by have h1 := hbl3 hne x hx; have h2 := cs_old hcs3 hne x hx; have h9 := HB0.out.size; omega⟩
 have HX3 := Lib.hid hY3
 have HP : Hid (0 ≤ p ∧ p ≤ 3) := Lib.hid ⟨hp0, hp3⟩
 clear CA CN CI hrow hns1 hbt1 hns2 hbt2 hrow2 hcs2 hst3 hY3 hbA hb34 hbt12 hs12 hszW hb3 hbl3 hcs3 hAq hA4 hg3 HX0 HB0
 obtain ⟨q12, hq12⟩ : ∃ q, Value.tuple #[.agg (appA x0 x1 la B.length lk cc y0 y1 y2 p), .int .i64 ee] = q := ⟨_, rfl⟩
 simp only [hq12]
 obtain ⟨q13, hq13⟩ : ∃ q, Value.agg (appA x0 x1 la B.length lk cc y0 y1 y2 p) = q := ⟨_, rfl⟩
 have HQ13 := Lib.hid hq13
 rw [hq13] at HAG
 simp only [hq13]
 clear hq12 hq13 hone hlk hlq
 by_cases he : ee = 0
 ·skip
  go_upto_region 2 with fail
  refine wl <| gz1 (.int .i64 ee) <| gzb (neq_e rfl ee 0 (decide_eq_true he)) <| wn ?_
  simp only [pu]
  obtain ⟨v5, hv5, CN⟩ := ns_next HNS.out hl (by omega) 3 (by decide) (by decide)
  go_upto_region 4 with fail
  refine wl <| gz1 (.pointer (some ⟨g, 0, none⟩)) <| gzc (.int .i64 v5) (fun w' => NS w' g a c L (k + 13 + 1 + 1) ∧ But g V4 w') CN (fun V5 hq => ?_)
  obtain ⟨hns5, hbt5⟩ := hq
  simp only [pu]
  refine gz1 (.int .i64 v5) <| wn ?_
  simp only [pu]
  have HBT5 := Lib.hid (HBT.out.trans hbt5)
  have HNS5 : Hid (NS V5 g a c L (k + 15 + 45 * (2 - v5))) := Lib.hid (hns5.mono (by omega))
  have HX25 := Lib.hid (HX24.out.but hbt5 (by have := HG2.out; omega))
  have HX35 : Hid (∃ cs, Bx V5 g3 cs 70 ∧ cs.size = 8 ∧ AppG w.heap.size g g2 g3 p V5 (.agg cs)) := Lib.hid ⟨_, HX3.out.but hbt5 (by have := HG2.out; have := HG3.out; omega), rfl, by rw [HQ13.out]; exact HAG.out.but hbt5 (.inl rfl)⟩
  clear CN hns5 hbt5 HAG HX3 HNS HBT HX24
  go_wp2_with fail
  go_loopg [5] v5 (fun gg s5 wx => ∃ i : Nat, s5 = .int .i64 i ∧ i ≤ 2 ∧ Hid (NS wx g a c L (k + 15 + 45 * (2 - i))) ∧ Hid (But g w wx) ∧ Hid (Bx wx g2 #[.slice none 0 0, .int .u64 0, .slice none 0 0, .int .u64 0, .slice none 0 0, .int .u64 0, .bool false, .int .u64 0] 70) ∧ Hid (∃ cs, Bx wx g3 cs 70 ∧ cs.size = 8 ∧ AppG w.heap.size g g2 g3 p wx (.agg cs)) ∧ i = gg)
  case atStart => exact ⟨v5, rfl, by omega, HNS5, HBT5, HX25, HX35, rfl⟩
  case round =>
   clear HNS5 HBT5 HX25 HX35
   obtain ⟨i, rfl, hi2, HNS, HBT, HX2, HX3, hgi⟩ := hrel
   obtain ⟨cs, hxc, hcz, hag⟩ := HX3.out
   have HG := Lib.hid hgi
   clear HX3 hgi
   by_cases hlt : 0 < i
   ·skip
    obtain ⟨x0, x1, la, lk, y0, y1, y2, B, cc, e0, hone, hcs, hlk, hlq, hbl⟩ := hag
    simp only [Value.agg.injEq] at e0
    subst e0
    have HA := Lib.hid hcs
    go_upto_region 5 with fail
    refine wl <| gz1 (.int .i64 i) <| gzb (gtr_n rfl (i) (0) dT) <| wn ?_
    simp only [pu]
    go_upto_region 7 with fail
    have h0 : KA w g g2 g3 a c L (k + 15 + 45 * (2 - i)) p (appA x0 x1 la B.length lk cc y0 y1 y2 p) la B false false false false false false u30 u31 wr.drew := KA.start HBT.out HNS.out hcs HX2.out hxc
    have HQ := Lib.hid hlq
    have HBL := Lib.hid hbl
    have HON := Lib.hid hone
    have HWR := Lib.hid (HBT.out.1.size)
    clear hxc hcs hbl hone HX2 HNS HBT hlq
    refine wp_region_inv (fun listed act9 V => ∃ b0 b1 b2 b3 b4 b5 b6 b7 b8 : Bool, ∃ x30 x31 : Value, listed = #[b0, b1, b2, b3, b4, b5, b6, b7, b8] ∧ act9 = { tmps := #[.pointer (some ⟨g, 0, none⟩), undef, .pointer (some ⟨g2, 0, none⟩), .pointer (some ⟨g3, 0, none⟩), .int .i64 ee, .int .i64 i, q12, .pointer (some ⟨g, 0, none⟩), .slice ra A.length rc, .pointer (some ⟨g, 0, none⟩), .int .i64 v10, .int .u64 v10, q12, q13, .int .i64 ee, .int .i64 ee, .bool false, undef, .pointer (some ⟨g, 0, none⟩), .int .i64 v5, .int .i64 i, .bool true, u22, u23, (cond b0 (.agg (appA x0 x1 la B.length lk cc y0 y1 y2 p)) (u24)), (cond b1 (.pointer (some ⟨g, 0, none⟩)) (u25)), (cond b2 (.pointer (some ⟨g3, 2, none⟩)) (u26)), (cond b3 (.agg (lgA la B.length lk cc)) (u27)), (cond b4 (.pointer (some ⟨g3, 7, none⟩)) (u28)), (cond b5 (.int .u64 p) (u29)), x30, x31, undef], defers := [] } ∧ KA w g g2 g3 a c L (k + 15 + 45 * (2 - i)) p (appA x0 x1 la B.length lk cc y0 y1 y2 p) la B b0 b3 b5 b6 b7 b8 x30 x31 V) (by kernel_rfl) (by kernel_rfl) ?_ ?_ ?_
    ·exact ⟨false, false, false, false, false, false, false, false, false, u30, u31, rfl, rfl, h0⟩
    ·intro i9 listed act9 V hi9 hr hJ
     obtain ⟨b0, b1, b2, b3, b4, b5, b6, b7, b8, x30, x31, rfl, rfl, hF⟩ := hJ
     have hi2 : i9 < 9 := hi9
     have hi3 : i9 = 0 ∨ i9 = 1 ∨ i9 = 2 ∨ i9 = 3 ∨ i9 = 4 ∨ i9 = 5 ∨ i9 = 6 ∨ i9 = 7 ∨ i9 = 8 := by omega
     rcases hi3 with rfl | rfl | rfl | rfl | rfl | rfl | rfl | rfl | rfl
     ·obtain rfl : b0 = false := ready_self hr
      obtain rfl : b8 = false := hF.n8 (.inl rfl)
      refine st_load rfl (by kernel_rfl) (some 24) rfl 70 (.tmp 3) rfl ⟨g3, 0, none⟩ (.agg (appA x0 x1 la B.length lk cc y0 y1 y2 p)) (by kernel_rfl) (load_app (hF.bx rfl)) ?_
      exact ⟨true, b1, b2, b3, b4, b5, b6, b7, false, _, _, rfl, rfl, hF.up0⟩
     ·obtain rfl : b1 = false := ready_self hr
      refine st_val rfl (by kernel_rfl) (some 25) rfl (.pointer (some ⟨g, 0, none⟩)) V (by kernel_rfl) ?_
      exact ⟨b0, true, b2, b3, b4, b5, b6, b7, b8, x30, x31, rfl, rfl, hF⟩
     ·obtain rfl : b2 = false := ready_self hr
      refine st_val rfl (by kernel_rfl) (some 26) rfl (.pointer (some ⟨g3, 2, none⟩)) V (by kernel_rfl) ?_
      exact ⟨b0, b1, true, b3, b4, b5, b6, b7, b8, x30, x31, rfl, rfl, hF⟩
     ·obtain rfl : b3 = false := ready_self hr
      obtain rfl : b2 = true := ready_dep hr 2 (by kernel_rfl)
      obtain rfl : b8 = false := hF.n8 (.inr (.inl rfl))
      refine st_load rfl (by kernel_rfl) (some 27) rfl 25 (.tmp 26) rfl ⟨g3, 2, none⟩ (.agg (lgA la B.length lk cc)) (by kernel_rfl) (load_chk (hF.bx rfl)) ?_
      exact ⟨b0, b1, true, true, b4, b5, b6, b7, false, _, _, rfl, rfl, hF.up3⟩
     ·obtain rfl : b4 = false := ready_self hr
      refine st_val rfl (by kernel_rfl) (some 28) rfl (.pointer (some ⟨g3, 7, none⟩)) V (by kernel_rfl) ?_
      exact ⟨b0, b1, b2, b3, true, b5, b6, b7, b8, x30, x31, rfl, rfl, hF⟩
     ·obtain rfl : b5 = false := ready_self hr
      obtain rfl : b4 = true := ready_dep hr 4 (by kernel_rfl)
      obtain rfl : b8 = false := hF.n8 (.inr (.inr (.inl rfl)))
      refine st_load rfl (by kernel_rfl) (some 29) rfl 23 (.tmp 28) rfl ⟨g3, 7, none⟩ (.int .u64 p) (by kernel_rfl) (load_pr (hF.bx rfl)) ?_
      exact ⟨b0, b1, b2, b3, true, true, b6, b7, false, _, _, rfl, rfl, hF.up5⟩
     ·obtain rfl : b6 = false := ready_self hr
      obtain rfl : b1 = true := ready_dep hr 1 (by kernel_rfl)
      obtain rfl : b3 = true := ready_dep hr 3 (by kernel_rfl)
      obtain rfl : b5 = true := ready_dep hr 5 (by kernel_rfl)
      refine st_call rfl (by kernel_rfl) (some 30) rfl 24 #[.pointer (some ⟨g, 0, none⟩), .agg (lgA la B.length lk cc), .int .u64 p] (by kernel_rfl) ((mk_raw (rc := lk) (co := cc) (p := p) hF.ns hl (by simp only [cond_false]; omega) hF.led (fun hne x hx => (HBL.out hne x hx).1) HQ.out.q (by have := HQ.out.n; omega)).mono fun e w' z => ?_)
      obtain ⟨b, d, R, rfl, hr, hn, hb⟩ := z
      exact ⟨_, rfl, b0, true, b2, true, b4, true, true, b7, b8, _, _, rfl, rfl, hF.raw HGW.out (by have := HG2.out; omega) (by have := HG2.out; have := HG3.out; omega) (fun hne x hx => (HBL.out hne x hx).1) (hr.base hF.but.1.size) hn hb⟩
     ·obtain rfl : b7 = false := ready_self hr
      obtain rfl : b0 = true := ready_dep hr 0 (by kernel_rfl)
      obtain rfl : b6 = true := ready_dep hr 6 (by kernel_rfl)
      obtain ⟨b, d, R, rfl, hr⟩ := hF.rw rfl rfl
      refine st_call rfl (by kernel_rfl) (some 31) rfl 49 #[.agg (appA x0 x1 la B.length lk cc y0 y1 y2 p), .slice b R.length d] (by kernel_rfl) ((ref_accept B cc p R x0 x1 y0 y1 y2 la b lk d V HON.out hF.led hlk HQ.out ⟨HP.out.1, by have := HP.out.2; omega⟩ hr.sl hr.le hr.b).mono fun e w' z => ?_)
      obtain ⟨x0, x1, la2, lk2, y0, y1, y2, rfl, ho2, hc2, hk2, hbl2, hb2⟩ := z
      exact ⟨_, rfl, true, b1, b2, b3, b4, b5, true, true, b8, _, _, rfl, rfl, hF.acp HGW.out ⟨x0, x1, la2, lk2, y0, y1, y2, _, _, rfl, ho2, hc2, hk2, HQ.out.tx ⟨HP.out.1, by have := HP.out.2; omega⟩ hr.b, acp_ne hbl2 HBL.out hF.ns.lt hF.bx2.lt (hF.bx (hF.n8 (.inr (.inr (.inr rfl))))).lt hF.but.1.size⟩ hb2⟩
     ·obtain rfl : b8 = false := ready_self hr
      obtain rfl : b7 = true := ready_dep hr 7 (by kernel_rfl)
      obtain rfl : b0 = true := ready_dep hr 0 (by kernel_rfl)
      obtain rfl : b3 = true := ready_dep hr 3 (by kernel_rfl)
      obtain rfl : b5 = true := ready_dep hr 5 (by kernel_rfl)
      obtain rfl : b6 = true := hF.o7 rfl
      obtain ⟨cs, V2, rfl, hst, hF2⟩ := hF.store HGW.out (Nat.ne_of_lt HG3.out.1) HG3.out.2.1 (Nat.ne_of_gt (Nat.lt_trans HG2.out.2.2 HG3.out.1)) rfl (fun hne x hx => (HBL.out hne x hx).2.2.1) (fun h5 x hx => HAB.out h5 x hx)
      refine st_storeA rfl (by kernel_rfl) rfl 70 (.tmp 3) (.tmp 31) rfl (.pointer (some ⟨g3, 0, none⟩)) (.agg cs) (by kernel_rfl) (by kernel_rfl) _ hst ?_
      exact ⟨true, b1, b2, true, b4, true, true, true, true, _, _, rfl, rfl, hF2⟩
    ·intro act9 V hJ
     obtain ⟨b0, b1, b2, b3, b4, b5, b6, b7, b8, x30, x31, he, rfl, hF⟩ := hJ
     have he : (#[true, true, true, true, true, true, true, true, true] : Array Bool) = #[b0, b1, b2, b3, b4, b5, b6, b7, b8] := he
     simp only [Array.mk.injEq, List.cons.injEq, and_true] at he
     obtain ⟨rfl, rfl, rfl, rfl, rfl, rfl, rfl, rfl, rfl⟩ := he
     simp only [cond_true]
     obtain ⟨cs2, rfl, hx2⟩ := hF.st rfl
     have HN9 : Hid (NS V g a c L (k + 15 + 45 * (2 - (i - 1)))) := Lib.hid (hF.ns.mono (show (k + 15 + 45 * (2 - i)) + 45 ≤ k + 15 + 45 * (2 - (i - 1)) by omega))
     have HB9 := Lib.hid hF.but
     have HX29 := Lib.hid hF.bx2
     have HX39 : Hid (∃ cs, Bx V g3 cs 70 ∧ cs.size = 8 ∧ AppG w.heap.size g g2 g3 p V (.agg cs)) := Lib.hid ⟨cs2, hx2, by obtain ⟨q0, q1, q2, q3, q4, q5, q6, q7, q8, e9, -⟩ := hF.ap rfl; simp only [Value.agg.injEq] at e9; rw [e9]; rfl, hF.ap rfl⟩
     clear hF hx2 h0
     go_upto_region 6 with fail
     refine wl <| gz1 (.int .i64 i) <| gzw (.int .i64 (i - 1 : Nat)) (sub_p rfl i hlt (by omega)) <| gz1 (.int .i64 (i - 1 : Nat)) <| wn ?_
     simp only [pu]
     go_wp2_with fail
     go_roundg (i - 1)
     case measure => have := HG.out; omega
     case rel => exact ⟨i - 1, rfl, by omega, HN9, HB9, HX29, HX39, rfl⟩
   ·skip
    go_upto_region 5 with fail
    refine wl <| gz1 (.int .i64 i) <| gzb (gtr_n rfl (i) (0) dF) <| wn ?_
    simp only [pu]
    obtain ⟨x0, x1, la, lk, y0, y1, y2, B, cc, e0, hone, hcs, hlk, hlq, hbl⟩ := hag
    simp only [Value.agg.injEq] at e0
    subst e0
    obtain ⟨hst9, hY9⟩ := store_app HX2.out rfl hone
    have hbt9 : But g2 wr (wr.setRow g2 (appA x0 x1 la B.length lk cc y0 y1 y2 p)) := But.setRow _ _
    have HE : Hid (AppM w g a c L k (.returned (.agg (appA x0 x1 la B.length lk cc y0 y1 y2 p))) (wr.setRow g2 (appA x0 x1 la B.length lk cc y0 y1 y2 p))) := Lib.hid ⟨_, p, g2, g3, rfl, (show AppG w.heap.size g g2 g3 p _ _ from AppG.but (V := wr) ⟨x0, x1, la, lk, y0, y1, y2, B, cc, rfl, hone, hcs, hlk, hlq, hbl⟩ hbt9 (.inr (.inl rfl))), HP.out.1, HP.out.2, (HNS.out.but hbt9 HG2.out.2.2 (fun h5 x hx => by have := HAB.out h5 x hx; have := HG2.out; omega)).mono (by omega), But.trans_off HBT.out hbt9 HG2.out.1 (Nat.le_of_lt HG2.out.2.2)⟩
    generalize wr.setRow g2 (appA x0 x1 la B.length lk cc y0 y1 y2 p) = V9 at *
    clear hbt9 hcs
    go_upto_region 8 with fail
    refine wl <| gzl rfl ⟨g3, 0, none⟩ (.agg (appA x0 x1 la B.length lk cc y0 y1 y2 p)) (load_app hxc) <| gzs rfl (hst9) <| wn ?_
    simp only [pu]
    go_wp2_with fail
    exact bodyPost_ret (results_1c rfl (by kernel_rfl) (load_app hY9)) rfl HE.out
 ·skip
  go_upto_region 2 with fail
  refine wl <| gz1 (.int .i64 ee) <| gzb (neq_e rfl ee 0 (decide_eq_false he)) <| wn ?_
  simp only [pu]
  have hag := HAG.out
  rw [← HQ13.out] at hag
  have hxc := HX3.out
  obtain ⟨cs0, hcs0⟩ : ∃ cs0, (appA x0 x1 la B.length lk cc y0 y1 y2 p) = cs0 := ⟨_, rfl⟩
  rw [hcs0] at hag hxc
  have HX2 := HX24
  obtain ⟨x0, x1, la, lk, y0, y1, y2, B, cc, e0, hone, hcs, hlk, hlq, hbl⟩ := hag
  simp only [Value.agg.injEq] at e0
  subst e0
  obtain ⟨hst9, hY9⟩ := store_app HX2.out rfl hone
  have hbt9 : But g2 V4 (V4.setRow g2 (appA x0 x1 la B.length lk cc y0 y1 y2 p)) := But.setRow _ _
  have HE : Hid (AppM w g a c L k (.returned (.agg (appA x0 x1 la B.length lk cc y0 y1 y2 p))) (V4.setRow g2 (appA x0 x1 la B.length lk cc y0 y1 y2 p))) := Lib.hid ⟨_, p, g2, g3, rfl, (show AppG w.heap.size g g2 g3 p _ _ from AppG.but (V := V4) ⟨x0, x1, la, lk, y0, y1, y2, B, cc, rfl, hone, hcs, hlk, hlq, hbl⟩ hbt9 (.inr (.inl rfl))), HP.out.1, HP.out.2, (HNS.out.but hbt9 HG2.out.2.2 (fun h5 x hx => by have := HAB.out h5 x hx; have := HG2.out; omega)).mono (by omega), But.trans_off HBT.out hbt9 HG2.out.1 (Nat.le_of_lt HG2.out.2.2)⟩
  generalize V4.setRow g2 (appA x0 x1 la B.length lk cc y0 y1 y2 p) = V9 at *
  clear hbt9 hcs
  go_upto_region 3 with fail
  refine wl <| gzl rfl ⟨g3, 0, none⟩ (.agg (appA x0 x1 la B.length lk cc y0 y1 y2 p)) (load_app hxc) <| gzs rfl (hst9) <| wn ?_
  simp only [pu]
  go_wp2_with fail
  exact bodyPost_ret (results_1c rfl (by kernel_rfl) (load_app hY9)) rfl HE.out
end Go.Proofs.YtglglhcnofbagaaGreat.Lg
namespace Go.Proofs.YtglglhcnofbagaaGreat.Lg
attribute [local irreducible] wpList wpQuiet
set_option maxRecDepth 100000
open Mo (usedV prioV mulB mulV)
open Go.RowKit
set_option linter.unusedSimpArgs false
set_option linter.unusedVariables false

/-- What made hands back: a good ledger, a price, bytes, and the numbers in a block of their own. -/
def MadO (w : World) (a : Option Addr) (c : Nat) (L : List Int) (e : Ending) (w' : World) : Prop := ∃ la lk B cc p b d R gs, e = .returned (.tuple #[.agg (lgA la (List.length B) lk cc), .int .u64 p, .slice b (List.length R) d, .pointer (some ⟨gs, 0, none⟩)]) ∧ Cs w' la (acc B) ∧ B.length ≤ lk ∧ LdQ B cc ∧ 0 ≤ p ∧ p ≤ 3 ∧ Rw w' (gs + 1) b d R ∧ NS w' gs a c L 160 ∧ w.heap.size ≤ gs ∧ (acc B ≠ [] → ∀ x, la = some x → x.block ≠ gs) ∧ Below w.heap.size w w'
structure KM (w : World) (gs g2 g7 : Nat) (a : Option Addr) (c : Nat) (L : List Int) (cs lc : Array Value) (la : Option Addr) (B : List Ac) (b9 b11 b13 : Bool) (x21 : Value) (V : World) : Prop where
 bel : Below w.heap.size w V
 ns : NS V gs a c L (cond b9 155 110)
 led : Cs V la (acc B)
 bx7 : Bx V g7 cs 70
 bx2 : Bx V g2 (cond b11 lc (lgA none 0 0 0)) 25
 rw : b9 = true → ∃ b d R, x21 = .slice b (List.length R) d ∧ Rw V (gs + 1) b d R
 o13 : b13 = true → b9 = true
section
variable {w : World} {gs g2 g7 : Nat} {a : Option Addr} {c : Nat} {L : List Int} {cs lc : Array Value} {la : Option Addr} {B : List Ac} {b9 b11 b13 : Bool} {x21 : Value} {V : World}
theorem KM.start (h1 : Below w.heap.size w V) (h2 : NS V gs a c L 110) (h3 : Cs V la (acc B)) (h4 : Bx V g7 cs 70) (h5 : Bx V g2 (lgA none 0 0 0) 25) : KM w gs g2 g7 a c L cs lc la B false false false x21 V.drew :=
 ⟨h1.drew, h2, h3, h4, h5, (fun e => nomatch e), (fun e => nomatch e)⟩
theorem KM.raw (h : KM w gs g2 g7 a c L cs lc la B false b11 b13 x21 V) (hg : w.heap.size ≤ gs) (h2 : g2 ≠ gs) (h7 : g7 ≠ gs) (hn : acc B ≠ [] → ∀ x, la = some x → x.block ≠ gs) {V2 : World} {b : Option Addr} {d : Nat} {R : List Int} (hr : Rw V2 V.heap.size b d R) (hns : NS V2 gs a c L (110 + 45)) (hb : But gs V V2) : KM w gs g2 g7 a c L cs lc la B true b11 b13 (.slice b R.length d) V2 := by
 obtain rfl := ff h.o13 rfl
 exact ⟨h.bel.trans (hb.1.mono hg), hns, cs_butn h.led hb hn, h.bx7.but hb h7, h.bx2.but hb h2, fun _ => ⟨b, d, R, rfl, hr.base h.ns.lt⟩, (fun e => nomatch e)⟩
theorem KM.st {n k : Nat} {cc : Int} (h : KM w gs g2 g7 a c L cs (lgA la n k cc) la B b9 false b13 x21 V) (h2 : w.heap.size ≤ g2) (hg : g2 < gs) (h7 : g7 ≠ g2) (hn : acc B ≠ [] → ∀ x, la = some x → x.block ≠ g2) (ha : L ≠ [] → ∀ x, a = some x → x.block < w.heap.size) : ∃ V2, (Instr.storeAt 25 (.pointer (some ⟨g2, 0, none⟩)) (.agg (lgA la n k cc))).run Tryz.prog V = .ok () V2 ∧ KM w gs g2 g7 a c L cs (lgA la n k cc) la B b9 true b13 x21 V2 := by
 have hst := store_lg (a' := la) (n' := n) (k' := k) (c' := cc) h.bx2
 have hbt : But g2 V (V.setRow g2 (lgA la n k cc)) := But.setRow _ _
 refine ⟨_, hst.1, belowRow h.bel h2 _, ?_, cs_butn h.led hbt hn, h.bx7.but hbt h7, hst.2, fun e => ?_, h.o13⟩
 ·obtain ⟨N, n1, n2, n3, n4⟩ := h.ns
  exact ⟨N, n1, n2.but hbt (by omega), cs_but0 n3 hbt (fun e x hx => by have := ha e x hx; omega), n4⟩
 ·obtain ⟨b, d, R, e1, hr⟩ := h.rw e
  exact ⟨b, d, R, e1, hr.but hbt (by omega)⟩
end
theorem results_c3 {fn : Func} {tmps : Array Value} {w : World} {p ty g q1 q2 q3 : Nat} {v u1 u2 u3 : Value} (hr : fn.results = #[.cell p ty, .tmp q1, .tmp q2, .tmp q3]) (h2 : tmps.getD p undef = .pointer (some ⟨g, 0, none⟩)) (hl : (Instr.loadAt ty (.pointer (some ⟨g, 0, none⟩))).run Tryz.prog w = .ok v w) (h3 : tmps.getD q1 undef = u1) (h4 : tmps.getD q2 undef = u2) (h5 : tmps.getD q3 undef = u3) : (results fn tmps).run Tryz.prog w = .ok (.tuple #[v, u1, u2, u3]) w := by
 unfold results
 rw [hr]
 have h2' : tmps[p]?.getD undef = .pointer (some ⟨g, 0, none⟩) := by simpa using h2
 have h3' : tmps[q1]?.getD undef = u1 := by simpa using h3
 have h4' : tmps[q2]?.getD undef = u2 := by simpa using h4
 have h5' : tmps[q3]?.getD undef = u3 := by simpa using h5
 have hl' := hl
 simp only [Instr.loadAt, Instr.sureAddr, Sem.run_bind, Sem.run_pure, Result.andThen_ok] at hl'
 simp [h2', h3', h4', h5', asAddr, hl', Result.andThen]
set_option maxRecDepth 100000 in
set_option maxHeartbeats 8000000 in
theorem made_any (a : Option Addr) (c : Nat) (L : List Int) (w : World) (hL : Cs w a (icells L)) (hl : L.length ≤ 100000) :
  Calls Tryz.prog 10 #[.slice a L.length c] w (MadO w a c L) := by
 have hb0 : Below w.heap.size w (w.alloc (.cells (lgA none 0 0 0) 25)) := (Below.refl _ w).alloc (Nat.le_refl _) _
 have hX0 : Bx (w.alloc (.cells (lgA none 0 0 0) 25)) w.heap.size (lgA none 0 0 0) 25 := heap_alloc_last w _
 have HAB : Hid (L ≠ [] → ∀ x, a = some x → x.block < w.heap.size) := Lib.hid fun hne x hx => by
  have := cs_old hL (by cases L with | nil => exact absurd rfl hne | cons y r => simp [icells]) x hx
  exact this
 have CF := mk_from a L.length c (w.alloc (.cells (lgA none 0 0 0) 25))
 have hsz : (w.alloc (.cells (lgA none 0 0 0) 25)).heap.size = w.heap.size + 1 := by simp
 have hL0 := hL.below hb0
 go_enter Tryz.func10, Tryz.ntmps10
 go_upto_region 1 with fail
 change Code.wp _ _ _ _ (w.alloc (.cells (lgA none 0 0 0) 25))
 generalize w.alloc (.cells (lgA none 0 0 0) 25) = W at *
 obtain ⟨g2, hg2⟩ : ∃ g2, w.heap.size = g2 := ⟨_, rfl⟩
 obtain ⟨gs, hgs⟩ : ∃ gs, W.heap.size = gs := ⟨_, rfl⟩
 have HG : Hid (w.heap.size ≤ g2 ∧ g2 < gs ∧ w.heap.size ≤ gs) := Lib.hid (by omega)
 have hb1 : Below W.heap.size W (W.alloc (.cells #[.slice a L.length c, .int .i64 0] 94)) := (Below.refl _ W).alloc (Nat.le_refl _) _
 have hX1 : Bx (W.alloc (.cells #[.slice a L.length c, .int .i64 0] 94)) W.heap.size #[.slice a L.length c, .int .i64 0] 94 := heap_alloc_last W _
 have hns : NS (W.alloc (.cells #[.slice a L.length c, .int .i64 0] 94)) W.heap.size a c L 0 := ⟨0, Nat.le_refl _, hX1, hL0.below hb1, fun hne x hx => by have := HAB.out hne x hx; omega⟩
 rw [hgs] at CF hns
 rw [hg2] at hX0
 simp only [hg2]
 have hX2 := hX0.below hX0.lt hb1
 have hbw := hb0.trans (hb1.mono hb0.size)
 generalize W.alloc (.cells #[.slice a L.length c, .int .i64 0] 94) = W1 at *
 have CA := mk_app hns hl (by omega)
 clear hb0 hb1 hX0 hX1 hL0 hg2 hsz hgs hns
 refine wl <| gz1 (.slice a L.length c) <| gzc (.pointer (some ⟨gs, 0, none⟩)) (fun w' => w' = W1) CF (fun V9 hV9 => ?_)
 subst hV9
 simp only [pu]
 refine gz1 (.pointer (some ⟨gs, 0, none⟩)) <| wn ?_
 simp only [pu]
 go_upto_region 2 with fail
 refine wl <| gz1 (.pointer (some ⟨gs, 0, none⟩)) <| gze (fun v w' => ∃ p q2 q3, AppG V9.heap.size gs q2 q3 p w' v ∧ 0 ≤ p ∧ p ≤ 3 ∧ NS w' gs a c L 110 ∧ But gs V9 w') (CA.mono fun e w' q => by obtain ⟨v, p, q2, q3, h1, h2⟩ := q; exact ⟨v, h1, p, q2, q3, by simpa using h2⟩) (fun vv W2 hq => ?_)
 obtain ⟨p, q2, q3, ⟨x0, x1, la, lk, y0, y1, y2, B, cc, rfl, hone, hcs, hlk, hlq, hbl⟩, hp0, hp3, hns, hbt⟩ := hq
 obtain ⟨hst3, hY3⟩ := store_app (heap_alloc_last W2 _ : Bx (W2.alloc (.cells #[.slice none 0 0, .int .u64 0, .slice none 0 0, .int .u64 0, .slice none 0 0, .int .u64 0, .bool false, .int .u64 0] 70)) W2.heap.size _ 70) rfl hone
 simp only [pu]
 refine run_to rfl (some 7) rfl (.pointer (some ⟨W2.heap.size, 0, none⟩)) (W2.alloc (.cells (#[.slice none 0 0, .int .u64 0, .slice none 0 0, .int .u64 0, .slice none 0 0, .int .u64 0, .bool false, .int .u64 0]) 70)) (by kernel_rfl) ?_
 simp only [pu]
 refine gzs rfl (hst3) <| wn ?_
 have hbA : Below W2.heap.size W2 ((W2.alloc (.cells #[.slice none 0 0, .int .u64 0, .slice none 0 0, .int .u64 0, .slice none 0 0, .int .u64 0, .bool false, .int .u64 0] 70)).setRow W2.heap.size (appA x0 x1 la B.length lk cc y0 y1 y2 p)) := belowRow ((Below.refl _ W2).alloc (Nat.le_refl _) _) (Nat.le_refl _) _
 have hsb := hX2.but hbt (Nat.ne_of_lt HG.out.2.1)
 have hW2 := hbt.1.size
 have hb5 := (hbw.trans (hbt.1.mono HG.out.2.2)).trans (hbA.mono (by have := (hbw.trans (hbt.1.mono HG.out.2.2)).size; omega))
 generalize (W2.alloc (.cells #[.slice none 0 0, .int .u64 0, .slice none 0 0, .int .u64 0, .slice none 0 0, .int .u64 0, .bool false, .int .u64 0] 70)).setRow W2.heap.size (appA x0 x1 la B.length lk cc y0 y1 y2 p) = V4 at *
 obtain ⟨g7, hg7⟩ : ∃ g7, W2.heap.size = g7 := ⟨_, rfl⟩
 have HG7 : Hid (gs < g7 ∧ g2 < g7) := Lib.hid (by have := hns.lt; have := HG.out; omega)
 have hns5 := hns.below hbA
 have hcs5 := hcs.below hbA
 have hX25 := hsb.below hsb.lt hbA
 rw [hg7] at hY3 ⊢
 have HBL : Hid (acc B ≠ [] → ∀ x, la = some x → x.block ≠ gs ∧ x.block ≠ g2) := Lib.hid fun hne x hx => ⟨(hbl hne x hx).1, by have h1 := (hbl hne x hx).2.2.2; have h2 := hX2.lt; omega⟩
 obtain ⟨q11, hq11⟩ : ∃ q, Value.agg (appA x0 x1 la B.length lk cc y0 y1 y2 p) = q := ⟨_, rfl⟩
 simp only [hq11]
 go_upto_region 3 with fail
 have h0 : KM w gs g2 g7 a c L (appA x0 x1 la B.length lk cc y0 y1 y2 p) (lgA la B.length lk cc) la B false false false undef V4.drew := KM.start hb5 hns5 hcs5 hY3 hX25
 have HQ := Lib.hid hlq
 have HNE : Hid (g2 ≠ gs ∧ g7 ≠ gs ∧ g7 ≠ g2) := Lib.hid (by have := HG.out; have := HG7.out; omega)
 clear CF CA hq11 hst3 hbA hsb hW2 hb5 hns hbt hcs hbl hns5 hcs5 hX25 hX2 hY3 hbw hone
 refine wp_region_inv (fun listed act9 V => ∃ b0 b1 b2 b3 b4 b5 b6 b7 b8 b9 b10 b11 b12 b13 b14 : Bool, ∃ x21 : Value, listed = #[b0, b1, b2, b3, b4, b5, b6, b7, b8, b9, b10, b11, b12, b13, b14] ∧ act9 = { tmps := #[.slice a L.length c, undef, .pointer (some ⟨g2, 0, none⟩), (cond b12 (.int .u64 p) (.int .u64 0)), (cond b13 (x21) (.slice none 0 0)), (cond b14 (.pointer (some ⟨gs, 0, none⟩)) (.pointer none)), .pointer (some ⟨gs, 0, none⟩), .pointer (some ⟨g7, 0, none⟩), .slice a L.length c, .pointer (some ⟨gs, 0, none⟩), .pointer (some ⟨gs, 0, none⟩), q11, (cond b0 (.pointer (some ⟨g7, 2, none⟩)) undef), (cond b1 (.agg (lgA la B.length lk cc)) undef), (cond b2 (.pointer (some ⟨g7, 7, none⟩)) undef), (cond b3 (.int .u64 p) undef), (cond b4 (.pointer (some ⟨gs, 0, none⟩)) undef), (cond b5 (.pointer (some ⟨g7, 2, none⟩)) undef), (cond b6 (.agg (lgA la B.length lk cc)) undef), (cond b7 (.pointer (some ⟨g7, 7, none⟩)) undef), (cond b8 (.int .u64 p) undef), x21, (cond b10 (.pointer (some ⟨gs, 0, none⟩)) undef)], defers := [] } ∧ KM w gs g2 g7 a c L (appA x0 x1 la B.length lk cc y0 y1 y2 p) (lgA la B.length lk cc) la B b9 b11 b13 x21 V) (by kernel_rfl) (by kernel_rfl) ?_ ?_ ?_
 ·exact ⟨false, false, false, false, false, false, false, false, false, false, false, false, false, false, false, undef, rfl, rfl, h0⟩
 ·intro i9 listed act9 V hi9 hr hJ
  obtain ⟨b0, b1, b2, b3, b4, b5, b6, b7, b8, b9, b10, b11, b12, b13, b14, x21, rfl, rfl, hF⟩ := hJ
  have hi2 : i9 < 15 := hi9
  have hi3 : i9 = 0 ∨ i9 = 1 ∨ i9 = 2 ∨ i9 = 3 ∨ i9 = 4 ∨ i9 = 5 ∨ i9 = 6 ∨ i9 = 7 ∨ i9 = 8 ∨ i9 = 9 ∨ i9 = 10 ∨ i9 = 11 ∨ i9 = 12 ∨ i9 = 13 ∨ i9 = 14 := by omega
  rcases hi3 with rfl | rfl | rfl | rfl | rfl | rfl | rfl | rfl | rfl | rfl | rfl | rfl | rfl | rfl | rfl
  ·obtain rfl : b0 = false := ready_self hr
   refine st_val rfl (by kernel_rfl) (some 12) rfl (.pointer (some ⟨g7, 2, none⟩)) V (by kernel_rfl) ?_
   exact ⟨true, b1, b2, b3, b4, b5, b6, b7, b8, b9, b10, b11, b12, b13, b14, x21, rfl, rfl, hF⟩
  ·obtain rfl : b1 = false := ready_self hr
   obtain rfl : b0 = true := ready_dep hr 0 (by kernel_rfl)
   refine st_load rfl (by kernel_rfl) (some 13) rfl 25 (.tmp 12) rfl ⟨g7, 2, none⟩ (.agg (lgA la B.length lk cc)) (by kernel_rfl) (load_chk hF.bx7) ?_
   exact ⟨true, true, b2, b3, b4, b5, b6, b7, b8, b9, b10, b11, b12, b13, b14, x21, rfl, rfl, hF⟩
  ·obtain rfl : b2 = false := ready_self hr
   refine st_val rfl (by kernel_rfl) (some 14) rfl (.pointer (some ⟨g7, 7, none⟩)) V (by kernel_rfl) ?_
   exact ⟨b0, b1, true, b3, b4, b5, b6, b7, b8, b9, b10, b11, b12, b13, b14, x21, rfl, rfl, hF⟩
  ·obtain rfl : b3 = false := ready_self hr
   obtain rfl : b2 = true := ready_dep hr 2 (by kernel_rfl)
   refine st_load rfl (by kernel_rfl) (some 15) rfl 23 (.tmp 14) rfl ⟨g7, 7, none⟩ (.int .u64 p) (by kernel_rfl) (load_pr hF.bx7) ?_
   exact ⟨b0, b1, true, true, b4, b5, b6, b7, b8, b9, b10, b11, b12, b13, b14, x21, rfl, rfl, hF⟩
  ·obtain rfl : b4 = false := ready_self hr
   refine st_val rfl (by kernel_rfl) (some 16) rfl (.pointer (some ⟨gs, 0, none⟩)) V (by kernel_rfl) ?_
   exact ⟨b0, b1, b2, b3, true, b5, b6, b7, b8, b9, b10, b11, b12, b13, b14, x21, rfl, rfl, hF⟩
  ·obtain rfl : b5 = false := ready_self hr
   refine st_val rfl (by kernel_rfl) (some 17) rfl (.pointer (some ⟨g7, 2, none⟩)) V (by kernel_rfl) ?_
   exact ⟨b0, b1, b2, b3, b4, true, b6, b7, b8, b9, b10, b11, b12, b13, b14, x21, rfl, rfl, hF⟩
  ·obtain rfl : b6 = false := ready_self hr
   obtain rfl : b5 = true := ready_dep hr 5 (by kernel_rfl)
   refine st_load rfl (by kernel_rfl) (some 18) rfl 25 (.tmp 17) rfl ⟨g7, 2, none⟩ (.agg (lgA la B.length lk cc)) (by kernel_rfl) (load_chk hF.bx7) ?_
   exact ⟨b0, b1, b2, b3, b4, true, true, b7, b8, b9, b10, b11, b12, b13, b14, x21, rfl, rfl, hF⟩
  ·obtain rfl : b7 = false := ready_self hr
   refine st_val rfl (by kernel_rfl) (some 19) rfl (.pointer (some ⟨g7, 7, none⟩)) V (by kernel_rfl) ?_
   exact ⟨b0, b1, b2, b3, b4, b5, b6, true, b8, b9, b10, b11, b12, b13, b14, x21, rfl, rfl, hF⟩
  ·obtain rfl : b8 = false := ready_self hr
   obtain rfl : b7 = true := ready_dep hr 7 (by kernel_rfl)
   refine st_load rfl (by kernel_rfl) (some 20) rfl 23 (.tmp 19) rfl ⟨g7, 7, none⟩ (.int .u64 p) (by kernel_rfl) (load_pr hF.bx7) ?_
   exact ⟨b0, b1, b2, b3, b4, b5, b6, true, true, b9, b10, b11, b12, b13, b14, x21, rfl, rfl, hF⟩
  ·obtain rfl : b9 = false := ready_self hr
   obtain rfl : b4 = true := ready_dep hr 4 (by kernel_rfl)
   obtain rfl : b6 = true := ready_dep hr 6 (by kernel_rfl)
   obtain rfl : b8 = true := ready_dep hr 8 (by kernel_rfl)
   obtain rfl : b13 = false := ff hF.o13 rfl
   refine st_call rfl (by kernel_rfl) (some 21) rfl 24 #[.pointer (some ⟨gs, 0, none⟩), .agg (lgA la B.length lk cc), .int .u64 p] (by kernel_rfl) ((mk_raw (rc := lk) (co := cc) (p := p) hF.ns hl (by simp only [cond_false]; omega) hF.led (fun hne x hx => (HBL.out hne x hx).1) HQ.out.q (by have := HQ.out.n; omega)).mono fun e w' z => ?_)
   obtain ⟨b, d, R, rfl, hr, hn, hb⟩ := z
   exact ⟨_, rfl, b0, b1, b2, b3, true, b5, true, b7, true, true, b10, b11, b12, false, b14, _, rfl, rfl, hF.raw HG.out.2.2 HNE.out.1 HNE.out.2.1 (fun hne x hx => (HBL.out hne x hx).1) hr hn hb⟩
  ·obtain rfl : b10 = false := ready_self hr
   refine st_val rfl (by kernel_rfl) (some 22) rfl (.pointer (some ⟨gs, 0, none⟩)) V (by kernel_rfl) ?_
   exact ⟨b0, b1, b2, b3, b4, b5, b6, b7, b8, b9, true, b11, b12, b13, b14, x21, rfl, rfl, hF⟩
  ·obtain rfl : b11 = false := ready_self hr
   obtain rfl : b1 = true := ready_dep hr 1 (by kernel_rfl)
   obtain ⟨V2, hst, hF2⟩ := hF.st HG.out.1 HG.out.2.1 HNE.out.2.2 (fun hne x hx => (HBL.out hne x hx).2) (fun h5 x hx => HAB.out h5 x hx)
   refine st_storeA rfl (by kernel_rfl) rfl 25 (.tmp 2) (.tmp 13) rfl (.pointer (some ⟨g2, 0, none⟩)) (.agg (lgA la B.length lk cc)) (by kernel_rfl) (by kernel_rfl) _ hst ?_
   exact ⟨b0, true, b2, b3, b4, b5, b6, b7, b8, b9, b10, true, b12, b13, b14, _, rfl, rfl, hF2⟩
  ·obtain rfl : b12 = false := ready_self hr
   obtain rfl : b3 = true := ready_dep hr 3 (by kernel_rfl)
   refine st_val rfl (by kernel_rfl) (some 3) rfl (.int .u64 p) V (by kernel_rfl) ?_
   exact ⟨b0, b1, b2, true, b4, b5, b6, b7, b8, b9, b10, b11, true, b13, b14, x21, rfl, rfl, hF⟩
  ·obtain rfl : b13 = false := ready_self hr
   obtain rfl : b9 = true := ready_dep hr 9 (by kernel_rfl)
   refine st_val rfl (by kernel_rfl) (some 4) rfl x21 V (by kernel_rfl) ?_
   exact ⟨b0, b1, b2, b3, b4, b5, b6, b7, b8, true, b10, b11, b12, true, b14, _, rfl, rfl, { hF with o13 := fun _ => rfl }⟩
  ·obtain rfl : b14 = false := ready_self hr
   obtain rfl : b10 = true := ready_dep hr 10 (by kernel_rfl)
   refine st_val rfl (by kernel_rfl) (some 5) rfl (.pointer (some ⟨gs, 0, none⟩)) V (by kernel_rfl) ?_
   exact ⟨b0, b1, b2, b3, b4, b5, b6, b7, b8, b9, true, b11, b12, b13, true, x21, rfl, rfl, hF⟩
 ·intro act9 V hJ
  obtain ⟨b0, b1, b2, b3, b4, b5, b6, b7, b8, b9, b10, b11, b12, b13, b14, x21, he, rfl, hF⟩ := hJ
  have he : (#[true, true, true, true, true, true, true, true, true, true, true, true, true, true, true] : Array Bool) = #[b0, b1, b2, b3, b4, b5, b6, b7, b8, b9, b10, b11, b12, b13, b14] := he
  simp only [Array.mk.injEq, List.cons.injEq, and_true] at he
  obtain ⟨rfl, rfl, rfl, rfl, rfl, rfl, rfl, rfl, rfl, rfl, rfl, rfl, rfl, rfl, rfl⟩ := he
  simp only [cond_true]
  obtain ⟨b, d, R, rfl, hr⟩ := hF.rw rfl
  have hbx := hF.bx2
  simp only [cond_true] at hbx
  have HE : Hid (MadO w a c L (.returned (.tuple #[.agg (lgA la B.length lk cc), .int .u64 p, .slice b R.length d, .pointer (some ⟨gs, 0, none⟩)])) V) := Lib.hid ⟨la, lk, B, cc, p, b, d, R, gs, rfl, hF.led, hlk, HQ.out, hp0, hp3, hr, hF.ns.mono (show 155 ≤ 160 by decide), HG.out.2.2, fun hne x hx => (HBL.out hne x hx).1, hF.bel⟩
  clear hF hr
  go_wp2_with fail
  exact bodyPost_ret (results_c3 rfl (by kernel_rfl) (load_lg hbx) rfl rfl rfl) rfl HE.out
end Go.Proofs.YtglglhcnofbagaaGreat.Lg
namespace Go.Proofs.YtglglhcnofbagaaGreat.Lg
set_option maxRecDepth 100000
open Go.RowKit
open Mo (usedV prioV mulB mulV)
set_option linter.unusedVariables false

/-- A name that is there stays. -/
def has (A : List Ac) (s : ByteArray) : Prop := ∃ x, x ∈ A ∧ x.1 = s
end Go.Proofs.YtglglhcnofbagaaGreat.Lg
namespace Go.Proofs.YtglglhcnofbagaaGreat.Lg
attribute [local irreducible] wpList wpQuiet
set_option maxRecDepth 100000
open Mo (usedV prioV mulB mulV)
open Go.RowKit
set_option linter.unusedSimpArgs false
set_option linter.unusedVariables false

end Go.Proofs.YtglglhcnofbagaaGreat.Lg
namespace Go.Proofs.YtglglhcnofbagaaGreat.Lg
set_option maxRecDepth 100000
open Mo (usedV prioV mulB mulV)
open Go.RowKit
set_option linter.unusedSimpArgs false
set_option linter.unusedVariables false

section
variable {ρ : Operand → Value} {o : Oper} {x y : Operand}
end
/-- The program's Tx on a good ledger. -/
theorem tx_good {A : List Ac} {c price : Int} {L : List Int} {la ra : Option Addr} {lk rc : Nat} {w : World} (hq : LdQ A c) (hp : W64 price) (hL : Cs w la (acc A)) (hlk : A.length ≤ lk) (hS : Sl w ra rc L) (hrc : L.length ≤ rc) (h8 : ∀ y, y ∈ L → W8 y) :
  Calls Tryz.prog 11 #[.agg (lgA la A.length lk c), .int .u64 price, .slice ra L.length rc] w (TxO w la A (txX A c price L)) :=
 q_tx A c price L la ra lk rc w hL hlk (by have := hq.n; omega) hq.cw hq.w hq.z hp hS hrc h8
end Go.Proofs.YtglglhcnofbagaaGreat.Lg
namespace Go.Proofs.YtglglhcnofbagaaGreat.Lg
set_option maxRecDepth 100000
open Go.ChangeShapes Go.WideShapes Go.ChangeAt Go.RowKit Go.Deep Go.Joins

theorem ints_arg {H : Type} {enc : TypeId × Value → H} {W : World} {fuel : Nat} {cs : List Value} {y : DataW H × List MemPlace} (h : DataW.trod enc Tryz.prog W 0 (fun _ => true) true fuel 27 cs = some y) :
  ∃ a cap L, cs = [.slice a (List.length L) cap] ∧ L.length ≤ 9223372036854775807 ∧ Cs W a (icells L) := by
 rcases open_ints Tryz.underlying27 Tryz.underlying3 (by kernel_rfl) h with ⟨rfl, rfl⟩ | ⟨x, l, c, zs, rfl, _, hl, hm, hz, rfl, hcell, hwz⟩
 ·exact ⟨none, 0, [], rfl, by simp, Cs.nil _ _⟩
 ·have hz' : zs.length = c := by simpa using hz
  have hlen : (zs.take l).length = l := by rw [List.length_take]; omega
  refine ⟨some x, c, zs.take l, by rw [hlen], by rw [hlen]; unfold maxLen at hm; omega, fun j v hj => ?_⟩
  have hjl : j < (zs.take l).length := by
   have := (List.getElem?_eq_some_iff.1 hj).1
   simpa [icells] using this
  have hjz : j < zs.length := by omega
  obtain ⟨b, off, rfl, hc⟩ := ints_at hcell (by omega)
  rw [icells_at _ _ hjl] at hj
  simp only [Option.some.injEq] at hj
  have hcj := hc j hjz
  refine ⟨b, off, rfl, World.block_lt_of_cell? W _ hcj, ?_⟩
  rw [hcj, ← hj]
  simp [List.getD, show j < l by omega]
theorem size_list (x : ByteArray) : x.data.toList.length = x.size := Array.length_toList
end Go.Proofs.YtglglhcnofbagaaGreat.Lg
