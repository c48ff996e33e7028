/-
  Texts DN FA AX0 AX RA0 AN SQ FO FR KN AP FV QA joined.
-/
import Derived.Test.YtnhlpahoomcgnaaJ14
import Derived.Test.YtnhlpahoomcgnaaJ1
import Derived.Test.YtnhlpahoomcgnaaJ13
set_option maxRecDepth 100000
set_option maxHeartbeats 8000000
set_option linter.unusedSimpArgs false
set_option linter.unusedVariables false
namespace Go.Proofs.Ytnhlpahoomcgnaa.Lg
open Mo (Zd Zm YL YU)
open Go.RowKit
section
variable {ρ : Operand → Value} {o : Oper} {x y : Operand}
theorem I7 (ho : o.op = .binOp .add 23 x y 23) (a b : Int) (h : W64 (a + b)) (hx : ρ x = Z7 a) (hy : ρ y = Z7 b) (w : World) : (execOp ρ o).run Try.prog w = .ok (.value (Z7 (a + b))) w := by
 have hw : IntKind.u64.wrap (a + b) = a + b := by obtain ⟨h0, h1⟩ := h; rw [IntKind.wrap_u64]; omega
 unfold execOp
 simp only [ho, hx, hy]
 go_simp
end
structure OG (A : List Ac) (c : Int) (t : Zf) : Prop where
 w : Xz A
 cw : W64 c
 n : A.length ≤ 256
 tt : c + tot (Zy A) < 18446744073709551616
 g : (Zw A t.snd).2 = true
 q : (Zw A t.snd).1.2.2 < 18446744073709551615
 cb : Vp t = true
 cv : X9 t ≤ (Zw A t.snd).1.2.1
 f : W64 t.Y6
 a : ∀ x, x ∈ t.tr → W64 x.2
 m : t.tr.length ≤ 16
theorem OG.c0 {A : List Ac} {c : Int} {t : Zf} (h : OG A c t) : 0 ≤ X9 t ∧ t.Y6 ≤ X9 t ∧ X9 t = tot (WH t) := by
 have h1 := (Oo h.cb).1
 have h2 := TD t
 have h3 := (Om h.a t.tr.length).1
 have := h.f.1
 exact ⟨by omega, by omega, h1⟩
theorem OG.j0 {A : List Ac} {c : Int} {t : Zf} (h : OG A c t) : Gx A t 0 (Xd A t) := Gx.start h.w h.g h.q h.cb h.cv h.c0.1
theorem OG.js {A B : List Ac} {c : Int} {t : Zf} (h : OG A c t) {j : Nat} (hJ : Gx A t j B) (hj : j < t.tr.length) : Gx A t (j + 1) (Xe B (tfa t.tr j)) ∧ W64 ((Wj B (tfa t.tr j).1).2.1 + (tfa t.tr j).2) :=
 hJ.step hj (by have := h.tt; have := h.cw.1; omega) h.a h.f.1
theorem OG.yw {A : List Ac} {c : Int} {t : Zf} (h : OG A c t) : W64 ((Zw A t.snd).1.2.1 - X9 t) ∧ W64 ((Zw A t.snd).1.2.2 + 1) := by
 obtain ⟨h1, h2, h3⟩ := Xu h.g
 have hwi := h.w _ h1
 rw [← h2] at hwi
 obtain ⟨⟨p0, p1⟩, q0, q1⟩ := hwi
 have h4 := h.c0.1
 have h5 := h.cv
 have h6 := h.q
 exact ⟨⟨by omega, by omega⟩, by omega, by omega⟩
theorem OG.cf {A : List Ac} {c : Int} {t : Zf} (h : OG A c t) : W64 (c + t.Y6) := by
 obtain ⟨h1, h2, h3⟩ := Xu h.g
 have h4 := Ew h.w h1
 rw [← h2] at h4
 have h5 := h.c0
 have := h.cv; have := h.tt; have := h.cw.1; have := h.f.1
 exact ⟨by omega, by omega⟩
theorem KG {A : List Ac} {c : Int} {t : Zf} (h : OG A c t) : ∀ j, j ≤ t.tr.length → Gx A t j (Ul A t j)
 | 0, _ => h.j0
 | j + 1, hj => by rw [Uc hj]; exact (h.js (KG h j (by omega)) hj).1
theorem wC {A : List Ac} {c : Int} {t : Zf} (h : OG A c t) : Gx A t t.tr.length (Yt A t) := KG h _ (Nat.le_refl _)
def fK (w : World) (B : List Ac) (c : Int) (e : Ending) (w' : World) : Prop := ∃ ad k, e = .returned (.agg (ZU ad B.length k c)) ∧ ZB w' w.heap.size (.slice ad B.length k) B ∧ Below w.heap.size w w'
section
variable {ρ : Operand → Value} {o : Oper} {x y : Operand}
theorem A8 (ho : o.op = .binOp .neq 23 x y 23) (a b : Int) {t : Bool} (ht : decide (a = b) = t) (hx : ρ x = Z7 a) (hy : ρ y = Z7 b) (w : World) : (execOp ρ o).run Try.prog w = .ok (.value (.bool (!t))) w := by
 have e : (a != b) = !t := by rw [← ht]; rfl
 unfold execOp
 simp only [ho, hx, hy]
 go_simp
theorem I8 (ho : o.op = .binOp .eql 23 x y 23) (a b : Int) {t : Bool} (ht : decide (a = b) = t) (hx : ρ x = Z7 a) (hy : ρ y = Z7 b) (w : World) : (execOp ρ o).run Try.prog w = .ok (.value (.bool t)) w := by
 have e : (a == b) = t := ht
 unfold execOp
 simp only [ho, hx, hy]
 go_simp
theorem Na (ho : o.op = .binOp .lss 23 x y 23) (a b : Int) {t : Bool} (ht : decide (a < b) = t) (hx : ρ x = Z7 a) (hy : ρ y = Z7 b) (w : World) : (execOp ρ o).run Try.prog w = .ok (.value (.bool t)) w := by
 rw [← ht]
 unfold execOp
 simp only [ho, hx, hy]
 go_simp
end
structure oH (A : List Ac) (c price : Int) (t : Zf) : Prop where
 v : Y8 A c = 0
 w : Xz A
 cw : W64 c
 p : W64 price
 sq : W64 t.sq
 Zk : W64 t.Zk
 f : W64 t.Y6
 a : ∀ x, x ∈ t.tr → W64 x.2
 m : t.tr.length ≤ 16
theorem oH.dn {A : List Ac} {c price : Int} {t : Zf} (h : oH A c price t) (h1 : (Zw A t.snd).2 = true) (h2 : (Zw A t.snd).1.2.2 = t.sq) (h3 : ¬ t.sq = 18446744073709551615) (h4 : Vp t = true) (h5 : ¬ (Zw A t.snd).1.2.1 < X9 t) : OG A c t := by
 obtain ⟨v1, v2, v3, v4⟩ := Xc h.v
 have v5 : tot (c :: Zy A) < 18446744073709551616 := of_decide_eq_true v4
 rw [YQ] at v5
 have := h.sq.2
 exact ⟨h.w, h.cw, v1, v5, h1, by omega, h4, by omega, h.f, h.a, h.m⟩
theorem res_one (r : XZ) : (ZE r).all (·.oneCell') = true := by simp [Value.oneCell']
theorem XF {w : World} {g : Nat} {r q : XZ} (h : Bx w g (ZE r) 61) : (Instr.storeAt 61 (Z5 g 0) (.agg (ZE q))).run Try.prog w = .ok () (w.setRow g (ZE q)) ∧ Bx (w.setRow g (ZE q)) g (ZE q) 61 :=
 ⟨YW h rfl (res_one q) (by kernel_rfl), h.set⟩
theorem Xq {w : World} {g k : Nat} {r : XZ} (h : Bx w g (ZE r) k) : (Instr.loadAt 61 (Z5 g 0)).run Try.prog w = .ok (.agg (ZE r)) w :=
 run_loadAt_mid w g 0 61 (ZE r).toList _ (fun j v hv => by
  rw [cell_of_row w g _ _ _ (0, 0) h]
  simpa using hv) Try.underlying61 rfl (by kernel_rfl)
theorem TM {fn : Func} {tmps : Array Value} {w : World} {p ty g q ty2 g2 : Nat} {v v2 : Value} (hr : fn.results = #[.cell p ty, .cell q ty2]) (h2 : tmps.getD p undef = Z5 g 0) (hl : (Instr.loadAt ty (Z5 g 0)).run Try.prog w = .ok v w) (h4 : tmps.getD q undef = Z5 g2 0) (hl2 : (Instr.loadAt ty2 (Z5 g2 0)).run Try.prog w = .ok v2 w) : (results fn tmps).run Try.prog w = .ok (.tuple #[v, v2]) w := by
 unfold results
 rw [hr]
 have h2' : tmps[p]?.getD undef = Z5 g 0 := by simpa using h2
 have h4' : tmps[q]?.getD undef = Z5 g2 0 := by simpa using h4
 have hl' := hl
 have fM := hl2
 simp only [Instr.loadAt, Instr.sureAddr, Sem.run_bind, Sem.run_pure, Result.andThen_ok] at hl' fM
 simp [h2', h4', asAddr, hl', fM, Result.andThen]
def oI (w : World) (la : Option Addr) (A : List Ac) (X : (List Ac × Int) × XZ) (e : Ending) (w' : World) : Prop := ∃ ad k, e = .returned (.tuple #[.agg (ZU ad X.1.1.length k X.1.2), .agg (ZE X.2)]) ∧ Cs w' ad (acc X.1.1) ∧ X.1.1.length ≤ k ∧ ((ad = la ∧ X.1.1 = A) ∨ ∀ x, ad = some x → w.heap.size ≤ x.block) ∧ Below w.heap.size w w'
theorem Nb {w : World} {B n k : Nat} {ad : Option Addr} {A : List Ac} (h : ZB w B (.slice ad n k) A) : ∀ x, ad = some x → B ≤ x.block := fun x hx => by
 rcases h.2 with ⟨e, -⟩ | ⟨g, cap, cur, e, hB, -⟩
 ·simp only [Value.slice.injEq] at e; rw [e.1] at hx; cases hx
 ·simp only [Value.slice.injEq] at e; rw [e.1] at hx; cases hx; exact hB
structure KT (W : World) (r : XZ) (bA bS : Bool) (x : Value) (V : World) : Prop where
 bel : Below W.heap.size W V
 o : bS = true → bA = true
 box : bA = true → ∃ g, x = Z5 g 0 ∧ W.heap.size ≤ g ∧ (bS = false → Bx V g (ZE (YG 0)) 61) ∧ (bS = true → Bx V g (ZE r) 61)
theorem KT.alloc {W : World} {r : XZ} {bS : Bool} {x : Value} {V : World} (h : KT W r false bS x V) : KT W r true bS (Z5 V.heap.size 0) (V.alloc (.cells (ZE (YG 0)) 61)) := by
 obtain rfl := ff h.o rfl
 have hb : Below V.heap.size V (V.alloc (.cells (ZE (YG 0)) 61)) := (Below.refl _ V).alloc (Nat.le_refl _) _
 exact ⟨h.bel.trans (hb.mono h.bel.size), fun _ => rfl, fun _ => ⟨V.heap.size, rfl, h.bel.size, fun _ => heap_alloc_last V _, (fun e => nomatch e)⟩⟩
theorem KT.more {W : World} {r : XZ} {bA bS : Bool} {x : Value} {V V2 : World} (h : KT W r bA bS x V) (hb : Below V.heap.size V V2) : KT W r bA bS x V2 :=
 ⟨h.bel.trans (hb.mono h.bel.size), h.o, fun e => by
  obtain ⟨g, h1, h2, h3, h4⟩ := h.box e
  exact ⟨g, h1, h2, fun e => (h3 e).below (h3 e).lt hb, fun e => (h4 e).below (h4 e).lt hb⟩⟩
theorem KT.store {W : World} {r : XZ} {x : Value} {V : World} (h : KT W r true false x V) : ∃ g V2, x = Z5 g 0 ∧ (Instr.storeAt 61 (Z5 g 0) (.agg (ZE r))).run Try.prog V = .ok () V2 ∧ KT W r true true (Z5 g 0) V2 := by
 obtain ⟨g, rfl, h2, h3, -⟩ := h.box rfl
 have hst := XF (q := r) (h3 rfl)
 exact ⟨g, _, rfl, hst.1, ZT h.bel h2 _, fun _ => rfl, fun _ => ⟨g, rfl, h2, (fun e => nomatch e), fun _ => hst.2⟩⟩
structure PZ (g3 g8 g10 B : Nat) (lc : Array Value) (t : Zf) (ta : Option Addr) (tk : Nat) (r : XZ) (V : World) : Prop where
 x3 : Bx V g3 lc 33
 x8 : Bx V g8 (Zu t ta tk) 57
 x10 : Bx V g10 (ZE r) 61
 row : Yn V B (.slice ta t.tr.length tk) t.tr
structure KS (w : World) (g6 g7 B : Nat) (P : World → Prop) (Q : List Ac) (cc : Int) (r : XZ) (bC s6 s7 : Bool) (x : Value) (V : World) : Prop where
 bel : Below w.heap.size w V
 p : P V
 o : s6 = true → bC = true
 row : bC = true → ∃ ad k, x = .agg (ZU ad Q.length k cc) ∧ Q.length ≤ k ∧ ZB V B (.slice ad Q.length k) Q
 x6 : s6 = false → Bx V g6 (ZU none 0 0 0) 33
 y6 : s6 = true → ∃ ad k, x = .agg (ZU ad Q.length k cc) ∧ Bx V g6 (ZU ad Q.length k cc) 33
 x7 : Bx V g7 (ZE (cond s7 r (YG 0))) 61
structure K8 (w : World) (g6 g7 : Nat) (P : World → Prop) (lc : Array Value) (r : XZ) (s6 s7 : Bool) (V : World) : Prop where
 bel : Below w.heap.size w V
 p : P V
 x6 : Bx V g6 (cond s6 lc (ZU none 0 0 0)) 33
 x7 : Bx V g7 (ZE (cond s7 r (YG 0))) 61
theorem K8.st6 {w : World} {g6 g7 : Nat} {P : World → Prop} {la : Option Addr} {n k : Nat} {c : Int} {r : XZ} {s7 : Bool} {V : World} (h : K8 w g6 g7 P (ZU la n k c) r false s7 V) (hP : ∀ V2, But g6 V V2 → P V2) (h6 : w.heap.size ≤ g6) (hn : g7 ≠ g6) : ∃ V2, (Instr.storeAt 33 (Z5 g6 0) (.agg (ZU la n k c))).run Try.prog V = .ok () V2 ∧ K8 w g6 g7 P (ZU la n k c) r true s7 V2 := by
 have hst := ZJ (a' := la) (n' := n) (k' := k) (c' := c) h.x6
 have hbt : But g6 V (V.setRow g6 (ZU la n k c)) := But.setRow _ _
 exact ⟨_, hst.1, ZT h.bel h6 _, hP _ hbt, hst.2, h.x7.but hbt hn⟩
theorem K8.st7 {w : World} {g6 g7 : Nat} {P : World → Prop} {lc : Array Value} {r : XZ} {s6 : Bool} {V : World} (h : K8 w g6 g7 P lc r s6 false V) (hP : ∀ V2, But g7 V V2 → P V2) (h7 : w.heap.size ≤ g7) (hn : g6 ≠ g7) : ∃ V2, (Instr.storeAt 61 (Z5 g7 0) (.agg (ZE r))).run Try.prog V = .ok () V2 ∧ K8 w g6 g7 P lc r s6 true V2 := by
 have hst := XF (q := r) h.x7
 have hbt : But g7 V (V.setRow g7 (ZE r)) := But.setRow _ _
 exact ⟨_, hst.1, ZT h.bel h7 _, hP _ hbt, h.x6.but hbt hn, hst.2⟩
theorem K8.start {w V : World} {g6 g7 : Nat} {P : World → Prop} {lc : Array Value} {r : XZ} (hb : Below w.heap.size w V) (hp : P V.drew) (h6 : Bx V g6 (ZU none 0 0 0) 33) (h7 : Bx V g7 (ZE (YG 0)) 61) : K8 w g6 g7 P lc r false false V.drew := ⟨hb.drew, hp, h6, h7⟩
theorem KT.start (V : World) (r : XZ) : KT V r false false undef V.drew := ⟨(Below.refl _ V).drew, (fun e => nomatch e), (fun e => nomatch e)⟩
theorem fQ {A : List Ac} {c price : Int} {L : List Int} (h : Y8 A c ≠ 0) : Vq A c price L = ((A, c), YG 1) := if_pos h
theorem fO {A : List Ac} {c price : Int} {L : List Int} (h : Y8 A c = 0) (h2 : (Zq L).2 ≠ 0) : Vq A c price L = ((A, c), YG (Zq L).2) := by
 unfold Vq; rw [if_neg (by rw [h]; decide), if_pos h2]
theorem ac3 {A : List Ac} {c price : Int} {L : List Int} (h : Y8 A c = 0) (h2 : (Zq L).2 = 0) (h3 : Yy A price (Zq L).1 L.length ≠ 0) : Vq A c price L = ((A, c), ⟨Yy A price (Zq L).1 L.length, (Zq L).1.snd, (Zq L).1.sq, (Zq L).1.Zk, Zm (Zq L).1.Y6 (Zq L).1.Zk⟩) := by
 unfold Vq; rw [if_neg (by rw [h]; decide), if_neg (by rw [h2]; decide), if_pos h3]
theorem ac2 {A : List Ac} {c price : Int} {L : List Int} (h : Y8 A c = 0) (h2 : (Zq L).2 = 0) (h3 : Yy A price (Zq L).1 L.length = 0) : Vq A c price L = ((Yt A (Zq L).1, c + (Zq L).1.Y6), ⟨Yy A price (Zq L).1 L.length, (Zq L).1.snd, (Zq L).1.sq, (Zq L).1.Zk, Zm (Zq L).1.Y6 (Zq L).1.Zk⟩) := by
 unfold Vq; rw [if_neg (by rw [h]; decide), if_neg (by rw [h2]; decide), if_neg (by rw [h3]; decide), h3]
theorem fP {A : List Ac} {c price : Int} {L : List Int} (h8 : ∀ y, y ∈ L → W8 y) (hv : Y8 A c = 0) (hw : Xz A) (hc : W64 c) (hp : W64 price) (h2 : (Zq L).2 = 0) : oH A c price (Zq L).1 := by
 obtain ⟨h3, -, h4, -⟩ := Jl (t := (Zq L).1) (fun x hx => h8 x hx) (by rw [← h2])
 exact ⟨hv, hw, hc, hp, h4.sq, h4.Zk, h4.Y6, h4.am, (val_ok h3 h4.sq h4.Zk h4.Y6 h4.am).2.2⟩
theorem wB {A : List Ac} {c price size : Int} {t : Zf} (h : oH A c price t) (h0 : Yy A price t size = 0) : OG A c t ∧ (Yt A t).length ≤ 256 := by
 unfold Yy at h0
 split at h0
 ·omega
 rename_i c1
 split at h0
 ·omega
 rename_i c2
 split at h0
 ·omega
 rename_i c3
 split at h0
 ·omega
 split at h0
 ·omega
 split at h0
 ·omega
 split at h0
 ·omega
 rename_i c4
 split at h0
 ·omega
 rename_i c5
 split at h0
 ·omega
 rename_i c6
 exact ⟨h.dn (by simpa using c1) (by simpa using c2) c3 (by simpa using c4) c5, by omega⟩
end Go.Proofs.Ytnhlpahoomcgnaa.Lg
namespace Go.Proofs.Ytnhlpahoomcgnaa.Lg
open Mo (Zd Zm YL YU)
open Go.RowKit
end Go.Proofs.Ytnhlpahoomcgnaa.Lg
namespace Go.Proofs.Ytnhlpahoomcgnaa.Lg
open Mo (Zd Zm YL YU)
open Go.RowKit
theorem Tn {w : World} {g c k : Nat} {a : Option Addr} {L : List Int} (h : NS w g a c L k) (hl : L.length ≤ 100000) (hk : k ≤ 100000) (n : Int) (hn : 0 < n) (hn2 : n ≤ 1000000) : ∃ v : Nat, (v : Int) < n ∧ Calls Try.prog 21 #[Z5 g 0, Z8 n] w fun e w' => e = .returned (Z8 v) ∧ NS w' g a c L (k + 1) ∧ But g w w' := by
 obtain ⟨N, hN, h3⟩ := h
 obtain ⟨v, hv, hlt⟩ := qG L N n hn
 exact ⟨v, hlt, (DU h3 hl (by omega) n hn hn2 hv).mono fun e w' q => ⟨q.1, mg.ns q.2.1 (by omega), q.2.2⟩⟩
structure Rw (w : World) (B : Nat) (a : Option Addr) (c : Nat) (R : List Int) : Prop where
 sl : Sl w a c R
 le : R.length ≤ c
 b : ∀ y, y ∈ R → W8 y
 n : R.length ≤ 4096
 o : R ≠ [] → ∀ x, a = some x → B ≤ x.block
theorem P9 : ∀ {M : List Tf}, VP M = 0 → ∀ x, x ∈ M → isName (nums x.1) = true
 | [], _, x, hx => by cases hx
 | y :: r, h, x, hx => by
  unfold VP at h
  split at h
  ·omega
  ·rename_i h1
   split at h
   ·omega
   ·rcases List.mem_cons.1 hx with rfl | hx
    ·simpa using h1
    ·exact P9 h x hx
theorem P8 {t : Zf} (h : X5 t = 0) : ∀ x, x ∈ t.tr → isName (nums x.1) = true := by
 unfold X5 at h
 split at h
 ·omega
 split at h
 ·omega
 split at h
 ·omega
 split at h
 ·omega
 exact P9 h
theorem wG {A : List Ac} (h : Rl A) (x : Tf) : Rl (Xe A x) := UL h
theorem wF {A : List Ac} (h : Pj A) {x : Tf} (hx : isName (nums x.1) = true) : Pj (Xe A x) := UK h (by show isName (nums (Wj A x.1).1) = true; rw [Pn]; exact hx)
theorem GV {A : List Ac} {c : Int} {t : Zf} (h : OG A c t) (hs : Rl A) (hn : Pj A) (ht : ∀ x, x ∈ t.tr → isName (nums x.1) = true) : ∀ j, j ≤ t.tr.length → Rl (Ul A t j) ∧ Pj (Ul A t j)
 | 0, _ => by
  obtain ⟨h1, h2, h3⟩ := Xu h.g
  refine ⟨UL hs, UK hn ?_⟩
  show isName (nums (Zw A t.snd).1.1) = true
  rw [h2]
  exact hn _ h1
 | j + 1, hj => by
  obtain ⟨h1, h2⟩ := GV h hs hn ht j (by omega)
  rw [Uc hj]
  exact ⟨wG h1 _, wF h2 (ht _ (by rw [XC hj]; exact List.getElem_mem hj))⟩
theorem wE {A : List Ac} {c : Int} {t : Zf} (h : OG A c t) (hv : Y8 A c = 0) (ht : ∀ x, x ∈ t.tr → isName (nums x.1) = true) (hl : (Yt A t).length ≤ 256) : Y8 (Yt A t) (c + t.Y6) = 0 ∧ Xz (Yt A t) ∧ W64 (c + t.Y6) ∧ (c + t.Y6) + tot (Zy (Yt A t)) = c + tot (Zy A) := by
 obtain ⟨v1, v2, v3, v4⟩ := Xc hv
 have hg := wC h
 obtain ⟨s1, s2⟩ := GV h v2 v3 ht _ (Nat.le_refl _)
 have hs := hg.s
 have ha := TD t
 have he : (c + t.Y6) + tot (Zy (Yt A t)) = c + tot (Zy A) := by omega
 refine ⟨NZ hl s1 s2 ?_, hg.w, h.cf, he⟩
 refine decide_eq_true ?_
 rw [YQ, he]
 exact h.tt
structure ML (A : List Ac) (c : Int) : Prop where
 v : Y8 A c = 0
 w : Xz A
 cw : W64 c
theorem ML.n {A : List Ac} {c : Int} (h : ML A c) : A.length ≤ 256 := (Xc h.v).1
theorem Ba {s : ByteArray} (h : isName (nums s) = true) : s.size ≤ 20 := by
 unfold isName at h
 rw [Zx] at h
 simp only [Bool.and_eq_true, decide_eq_true_eq] at h
 omega
theorem ML.q {A : List Ac} {c : Int} (h : ML A c) : ∀ x, x ∈ A → mM x := fun x hx => by
 obtain ⟨i, hi, rfl⟩ := List.getElem_of_mem hx
 have h1 := (Xc h.v).2.2.1 i hi
 have h2 := h.w i hi
 rw [YH hi] at h1 h2
 exact ⟨⟨h1, Ba h1⟩, h2⟩
theorem ML.z {A : List Ac} {c : Int} (h : ML A c) : ∀ x, x ∈ A → x.1.size ≤ 140737488355328 := fun x hx => Nat.le_trans (h.q x hx).1.2 (by decide)
theorem ML.tx {A : List Ac} {c price : Int} {L : List Int} (h : ML A c) (hp : W64 price) (h8 : ∀ y, y ∈ L → W8 y) : ML (Vq A c price L).1.1 (Vq A c price L).1.2 := by
 by_cases hd : (Zq L).2 = 0
 ·by_cases hf : Yy A price (Zq L).1 L.length = 0
  ·have hq := fP h8 h.v h.w h.cw hp hd
   obtain ⟨d1, d2⟩ := wB hq hf
   obtain ⟨d3, -, -, -⟩ := Jl (t := (Zq L).1) (fun x hx => h8 x hx) (by rw [← hd])
   obtain ⟨e1, e2, e3, -⟩ := wE d1 h.v (P8 d3) d2
   rw [ac2 h.v hd hf]
   exact ⟨e1, e2, e3⟩
  ·rw [ac3 h.v hd hf]; exact h
 ·rw [fO h.v hd]; exact h
def has (A : List Ac) (s : ByteArray) : Prop := ∃ x, x ∈ A ∧ x.1 = s
structure QZ (A : List Ac) (c : Int) : Prop where
 n : A.length ≤ 4398046511104
 cw : W64 c
 w : Xz A
 z : ∀ x, x ∈ A → x.1.size ≤ 140737488355328
theorem ML.d {A : List Ac} {c : Int} (h : ML A c) : QZ A c := ⟨by have := h.n; omega, h.cw, h.w, h.z⟩
theorem QZ.tx {A : List Ac} {c p : Int} {L : List Int} (h : QZ A c) (hp : W64 p) (h8 : ∀ y, y ∈ L → W8 y) : QZ (Vq A c p L).1.1 (Vq A c p L).1.2 := by
 by_cases hv : Y8 A c = 0
 ·exact ((ML.mk hv h.w h.cw).tx hp h8).d
 ·rw [fQ hv]; exact h
def Yu (A : List Ac) (c p : Int) (Ls : List (List Int)) (j : Nat) : List Ac × Int := (Ls.take j).foldl (fun s L => (Vq s.1 s.2 p L).1) (A, c)
def Vj (A : List Ac) (c p : Int) (Ls : List (List Int)) (j : Nat) : XZ := (Vq (Yu A c p Ls j).1 (Yu A c p Ls j).2 p (Ls.getD j [])).2
def Ud (A : List Ac) (c p : Int) (Ls : List (List Int)) (j : Nat) : List XZ := (List.range j).map (Vj A c p Ls)
theorem Gy (A : List Ac) (c p : Int) (Ls : List (List Int)) : Yu A c p Ls 0 = (A, c) := rfl
theorem UQ {A : List Ac} {c p : Int} {Ls : List (List Int)} {j : Nat} (h : j < Ls.length) : Yu A c p Ls (j + 1) = (Vq (Yu A c p Ls j).1 (Yu A c p Ls j).2 p (Ls.getD j [])).1 := by
 unfold Yu
 rw [List.take_succ_eq_append_getElem h, List.foldl_append, List.getD_eq_getElem?_getD, List.getElem?_eq_getElem h]
 rfl
theorem Pq (A : List Ac) (c p : Int) (Ls : List (List Int)) (j : Nat) : Ud A c p Ls (j + 1) = Ud A c p Ls j ++ [Vj A c p Ls j] := by
 unfold Ud
 rw [List.range_succ, List.map_append]
 rfl
theorem KH (A : List Ac) (c p : Int) (Ls : List (List Int)) (j : Nat) : (Ud A c p Ls j).length = j := by unfold Ud; rw [List.length_map, List.length_range]
theorem QZ.run {A : List Ac} {c p : Int} {Ls : List (List Int)} (h : QZ A c) (hp : W64 p) (h8 : ∀ L, L ∈ Ls → ∀ y, y ∈ L → W8 y) : ∀ j, j ≤ Ls.length → QZ (Yu A c p Ls j).1 (Yu A c p Ls j).2
 | 0, _ => h
 | j + 1, hj => by
  rw [UQ hj]
  refine (QZ.run h hp h8 j (by omega)).tx hp (h8 _ ?_)
  rw [List.getD_eq_getElem?_getD, List.getElem?_eq_getElem hj]
  exact List.getElem_mem hj
def I9 (A : List Ac) (c p : Int) (Ls : List (List Int)) : Nat := (List.range Ls.length).findIdx (fun j => decide ((Vj A c p Ls j).code ≠ 0))
theorem oK {A : List Ac} {c p : Int} {Ls : List (List Int)} {i : Nat} (hi : i < Ls.length) (hb : ∀ j, j < i → (Vj A c p Ls j).code = 0) (he : (Vj A c p Ls i).code ≠ 0) : I9 A c p Ls = i := by
 unfold I9
 rw [List.findIdx_eq (by rw [List.length_range]; exact hi)]
 refine ⟨by rw [List.getElem_range]; exact decide_eq_true he, fun j hj => ?_⟩
 rw [List.getElem_range]
 exact decide_eq_false (fun q => q (hb j hj))
theorem oJ {A : List Ac} {c p : Int} {Ls : List (List Int)} (hb : ∀ j, j < Ls.length → (Vj A c p Ls j).code = 0) : I9 A c p Ls = Ls.length := by
 unfold I9
 have h : (List.range Ls.length).findIdx (fun j => decide ((Vj A c p Ls j).code ≠ 0)) = (List.range Ls.length).length := by
  rw [List.findIdx_eq_length]
  intro j hj
  rw [List.mem_range] at hj
  exact decide_eq_false (fun q => q (hb j hj))
 rw [h, List.length_range]
def TF (A : List Ac) (c p : Int) (Ls : List (List Int)) : (List Ac × Int) × Nat × Int := if I9 A c p Ls < Ls.length then (([], 0), I9 A c p Ls, (Vj A c p Ls (I9 A c p Ls)).code) else (Yu A c p Ls Ls.length, 0, 0)
theorem wH {A : List Ac} {c p : Int} {Ls : List (List Int)} {i : Nat} (hi : i < Ls.length) (hb : ∀ j, j < i → (Vj A c p Ls j).code = 0) (he : (Vj A c p Ls i).code ≠ 0) : TF A c p Ls = (([], 0), i, (Vj A c p Ls i).code) := by
 have e := oK hi hb he
 unfold TF
 rw [e, if_pos hi]
theorem Ey {A : List Ac} {c p : Int} {Ls : List (List Int)} (hb : ∀ j, j < Ls.length → (Vj A c p Ls j).code = 0) : TF A c p Ls = (Yu A c p Ls Ls.length, 0, 0) := by
 have e := oJ hb
 unfold TF
 rw [e, if_neg (Nat.lt_irrefl _)]
def Aj (r : XZ) : List Value := [Z8 r.code, .string r.snd, Z7 r.sq, Z7 r.Zk, Z7 r.pr]
def P6 (R : List XZ) : List Value := R.flatMap Aj
theorem KA : ∀ R : List XZ, (P6 R).length = R.length * 5
 | [] => rfl
 | x :: r => by
  have := KA r
  show (Aj x ++ P6 r).length = _
  rw [List.length_append, this, List.length_cons]
  show 5 + _ = _
  omega
theorem Ai (A B : List XZ) : P6 (A ++ B) = P6 A ++ P6 B := by unfold P6; rw [List.flatMap_append]
theorem Ah (R : List XZ) : ∀ u ∈ P6 R, u.oneCell' = true := fun u hu => by
 obtain ⟨x, -, hx⟩ := List.mem_flatMap.1 hu
 simp only [Aj, List.mem_cons, List.not_mem_nil, or_false] at hx
 rcases hx with rfl | rfl | rfl | rfl | rfl <;> rfl
theorem Ag : (Try.prog.info? 61).map (fun i => (i.zero, i.size, i.bytes)) = some (some (.agg #[Z8 0, .string ByteArray.empty, Z7 0, Z7 0, Z7 0]), 5, 48) := by kernel_rfl
theorem Fe (r : XZ) (V : World) : (Instr.buildSlice 43 1 #[(0, .agg (ZE r))]).run Try.prog V = .ok (.slice (some ⟨V.heap.size, 0, none⟩) 1 1) (V.alloc (.cells (ZE r) 61)) := by
 obtain ⟨i0, hi, hz0, hz1, hz2⟩ := info_parts Ag
 refine run_buildSlice V 43 61 1 _ (ZE r) i0 _ Try.underlying43 hi hz0 (by rw [hz1]; omega) (by rw [hz1]; omega) ?_
 rw [hz1]
 kernel_rfl
def Wy (w : World) (B : Nat) (v : Value) (R : List XZ) : Prop := w.ownsRow B 61 5 v R.length (P6 R)
theorem Wy.nil (w : World) (B : Nat) : Wy w B (.slice none 0 0) [] := World.ownsRow_nil _ _ _ _
theorem vT {w : World} {B : Nat} {v : Value} {A : List XZ} (h : Wy w B v A) (pa : Option Addr) (cp : Nat) (M : List XZ) (hP : Cs w pa (P6 M)) (hB : B ≤ w.heap.size) (hl : (A.length + M.length) * 48 ≤ 140737488355328) :
  ∃ a c V2, (Builtin.append_ #[43, 43] 43 #[v, .slice pa M.length cp]).run Try.prog w = .ok (.slice a (A ++ M).length c) V2 ∧ Wy V2 B (.slice a (A ++ M).length c) (A ++ M) ∧ Below B w V2 ∧ w.grownBy V2 v.ownBlock ∧ ((Value.slice a (A ++ M).length c).ownBlock = v.ownBlock ∨ (Value.slice a (A ++ M).length c).ownBlock = some w.heap.size) := by
 obtain ⟨v2, V2, hr, hO, hb, hg, hat⟩ := Ua (P := Try.prog) (t := 43) (e := 61) (m := M.length) (s := 5) (bytes := 48) Try.underlying43 Ag (by kernel_rfl) (by omega) h pa cp (P6 M) hP (KA M) (Ah M) hB (by omega) hl
 have hO2 : Wy V2 B v2 (A ++ M) := by unfold Wy; rw [List.length_append, Ai]; exact hO
 obtain ⟨a, c, e, -, -⟩ := Yj hO2
 subst e
 exact ⟨a, c, V2, hr, hO2, hb, hg, hat⟩
theorem Aq {w : World} {B : Nat} {v : Value} {R : List XZ} (h : Wy w B v R) : ∀ q, v.ownBlock = some q → B ≤ q ∧ q < w.heap.size := fun q hq => by
 obtain ⟨-, h⟩ := h
 rcases h with ⟨rfl, -⟩ | ⟨g, cap, cur, rfl, hB, hh, -⟩
 ·cases hq
 ·cases hq
  exact ⟨hB, (Array.getElem?_eq_some_iff.1 hh).1⟩
theorem Ap {w w' : World} {g B e size n : Nat} {v : Value} {xs : List Value} (h : w.ownsRow B e size v n xs) (hb : But g w w') (hn : v.ownBlock ≠ some g) : w'.ownsRow B e size v n xs := by
 refine ⟨h.1, ?_⟩
 rcases h.2 with h0 | ⟨k, cap, cur, ev, hB, hg, r⟩
 ·exact .inl h0
 ·exact .inr ⟨k, cap, cur, ev, hB, (hb.2 k (Array.getElem?_eq_some_iff.1 hg).1 (fun q => hn (by rw [ev, q]; rfl))).trans hg, r⟩
theorem Ak {w w' : World} {row : Option Nat} {a : Option Addr} {cs : List Value} (h : Cs w a cs) (hg : w.grownBy w' row) (hn : cs ≠ [] → ∀ x, a = some x → row ≠ some x.block) : Cs w' a cs := fun j v hj => by
 obtain ⟨b, off, e, hlt, hc⟩ := h j v hj
 refine ⟨b, off, e, Nat.lt_of_lt_of_le hlt hg.size, ?_⟩
 rw [← hc]
 exact World.cell?_of_block (hg.block b hlt (fun q => hn (fun z => by rw [z] at hj; cases hj) _ e q.symm))
theorem Am {w : World} {B : Nat} {v : Value} {A : List XZ} (h : Wy w B v A) (hB : B ≤ w.heap.size) (r : XZ) (hl : A.length ≤ 100000) :
  ∃ a c V2, (Builtin.append_ #[43, 43] 43 #[v, .slice (some ⟨w.heap.size, 0, none⟩) 1 1]).run Try.prog (w.alloc (.cells (ZE r) 61)) = .ok (.slice a (A ++ [r]).length c) V2 ∧ Wy V2 B (.slice a (A ++ [r]).length c) (A ++ [r]) ∧ Below B w V2 ∧ w.grownBy V2 v.ownBlock ∧ (∀ q, (Value.slice a (A ++ [r]).length c).ownBlock = some q → v.ownBlock = some q ∨ w.heap.size ≤ q) := by
 have hb : Below w.heap.size w (w.alloc (.cells (ZE r) 61)) := (Below.refl _ w).alloc (Nat.le_refl _) _
 have hO := own_below h hb
 have hc : Cs (w.alloc (.cells (ZE r) 61)) (some ⟨w.heap.size, 0, none⟩) (P6 [r]) := Cs.block (t := 61) (fr := (0, 0)) (heap_alloc_last w _)
 obtain ⟨a, c, V2, h1, h2, h3, h4, h5⟩ := vT hO (some ⟨w.heap.size, 0, none⟩) 1 [r] hc (Nat.le_trans hB hb.size) (by simp only [List.length_cons, List.length_nil]; omega)
 refine ⟨a, c, V2, h1, h2, (hb.mono hB).trans h3, (World.grownBy_alloc w _ _).trans h4, fun q hq => ?_⟩
 rcases h5 with h5 | h5
 ·exact .inl (by rw [← h5]; exact hq)
 ·rw [h5] at hq
  cases hq
  exact .inr hb.size
abbrev Bs := Option Addr × Nat × List Int
def fB (E : List Bs) : List Value := E.map fun e => .slice e.1 e.2.2.length e.2.1
def lsB (E : List Bs) : List (List Int) := E.map (·.2.2)
def QI (E : List Bs) (k : Nat) : Bs := E.getD k (none, 0, [])
theorem MX {E : List Bs} {k : Nat} (h : k < E.length) : QI E k = E[k] := getD_lt E k _ h
theorem Yq (E : List Bs) : (lsB E).length = E.length := by simp [lsB]
theorem MZ {E : List Bs} {k : Nat} (h : k < E.length) : (lsB E).getD k [] = (QI E k).2.2 := by
 unfold lsB
 rw [MX h, List.getD_eq_getElem?_getD, List.getElem?_map, List.getElem?_eq_getElem h]
 rfl
structure MG (w : World) (a : Option Addr) (E : List Bs) : Prop where
 cs : Cs w a (fB E)
 sl : ∀ e, e ∈ E → Sl w e.1 e.2.1 e.2.2
 le : ∀ e, e ∈ E → e.2.2.length ≤ e.2.1
 b : ∀ e, e ∈ E → ∀ y, y ∈ e.2.2 → W8 y
theorem MG.below {w w' : World} {a : Option Addr} {E : List Bs} (h : MG w a E) (hb : Below w.heap.size w w') : MG w' a E := ⟨h.cs.below hb, fun e he => ZH (h.sl e he) hb, h.le, h.b⟩
theorem MG.at {w : World} {a : Option Addr} {E : List Bs} (h : MG w a E) {k : Nat} (hk : k < E.length) : ∃ b off, a = some ⟨b, off, none⟩ ∧ (Instr.loadAt 50 (Z5 b (off + k * 1))).run Try.prog w = .ok (.slice (QI E k).1 (QI E k).2.2.length (QI E k).2.1) w := by
 have h0 : (fB E)[k]? = some (.slice (QI E k).1 (QI E k).2.2.length (QI E k).2.1) := by
  unfold fB
  rw [MX hk, List.getElem?_map, List.getElem?_eq_getElem hk]
  rfl
 obtain ⟨b, off, rfl, -, hc⟩ := h.cs _ _ h0
 rw [show k * 1 = k by omega]
 exact ⟨b, off, rfl, YV hc (by kernel_rfl)⟩
theorem MG.all {w : World} {a : Option Addr} {E : List Bs} (h : MG w a E) : ∀ L, L ∈ lsB E → ∀ y, y ∈ L → W8 y := fun L hL => by
 obtain ⟨e, he, rfl⟩ := List.mem_map.1 hL
 exact h.b e he
theorem GU {E : List Bs} {k : Nat} (h : k < E.length) : QI E k ∈ E := by rw [MX h]; exact List.getElem_mem h
theorem Az (b off n c k : Nat) (hk : k < n) (V : World) (ρ : Operand → Value) (o : Oper) {x y : Operand} (ho : o.op = .indexAddr 41 x y) (hx : ρ x = .slice (some ⟨b, off, none⟩) n c) (hy : ρ y = Z8 k) : (execOp ρ o).run Try.prog V = .ok (.value (Z5 b (off + k * 1))) V := by
 have hs : (sizeOf (Try.prog.elem 41)).run Try.prog V = .ok 1 V := by kernel_rfl
 have hlm : (k : Int) < (n : Int) := by omega
 unfold execOp
 simp only [ho, hx, hy]
 go_simp
def QTx : Prop := ∀ (A : List Ac) (c price : Int) (L : List Int) (la ra : Option Addr) (lk rc : Nat) (w : World), Cs w la (acc A) → A.length ≤ lk → A.length ≤ 4398046511104 → W64 c → Xz A → (∀ x, x ∈ A → x.1.size ≤ 140737488355328) → W64 price → Sl w ra rc L → L.length ≤ rc → (∀ y, y ∈ L → W8 y) →
  Calls Try.prog 29 #[.agg (ZU la A.length lk c), Z7 price, .slice ra L.length rc] w (oI w la A (Vq A c price L))
theorem oh (V : World) (a : Option Addr) (n k : Nat) (c : Int) (r : XZ) : ∃ Va V2 V3, V.alloc (.cells (ZU none 0 0 0) 33) = Va ∧ V.heap.size < Va.heap.size ∧
  (Instr.storeAt 33 (Z5 V.heap.size 0) (.agg (ZU a n k c))).run Try.prog (Va.alloc (.cells (ZE (YG 0)) 61)) = .ok () V2 ∧
  (Instr.storeAt 61 (Z5 Va.heap.size 0) (.agg (ZE r))).run Try.prog V2 = .ok () V3 ∧
  Below V.heap.size V V3 ∧ Bx V3 V.heap.size (ZU a n k c) 33 ∧ Bx V3 Va.heap.size (ZE r) 61 := by
 have hX1 : Bx (V.alloc (.cells (ZU none 0 0 0) 33)) V.heap.size (ZU none 0 0 0) 33 := heap_alloc_last V _
 have hb1 : Below V.heap.size V (V.alloc (.cells (ZU none 0 0 0) 33)) := (Below.refl _ V).alloc (Nat.le_refl _) _
 obtain ⟨Va, uM⟩ := ZR (V.alloc (.cells (ZU none 0 0 0) 33))
 rw [uM] at hX1 hb1
 have hX2 : Bx (Va.alloc (.cells (ZE (YG 0)) 61)) Va.heap.size (ZE (YG 0)) 61 := heap_alloc_last Va _
 have hb2 : Below Va.heap.size Va (Va.alloc (.cells (ZE (YG 0)) 61)) := (Below.refl _ Va).alloc (Nat.le_refl _) _
 have hlt := hX1.lt
 obtain ⟨hs1, hY1⟩ := ZJ (a' := a) (n' := n) (k' := k) (c' := c) (hX1.below hX1.lt hb2)
 have hn : Va.heap.size ≠ V.heap.size := by omega
 obtain ⟨hs2, hY2⟩ := XF (q := r) (hX2.but (But.setRow _ (ZU a n k c)) hn)
 exact ⟨Va, _, _, uM, hlt, hs1, hs2, (hb1.trans (hb2.mono hb1.size)).trans (((But.setRow _ _).1).trans ((But.setRow _ _).1.mono (Nat.le_of_lt hlt))), hY1.but (But.setRow _ _) hn.symm, hY2⟩
end Go.Proofs.Ytnhlpahoomcgnaa.Lg
namespace Go.Proofs.Ytnhlpahoomcgnaa.Lg
attribute [local irreducible] wpList wpQuiet
open Mo (Zd Zm YL YU)
open Go.RowKit
abbrev VU (x0 x1 : Value) (a : Option Addr) (n k : Nat) (c : Int) (y0 y1 y2 : Value) (p : Int) : Array Value := #[x0, x1, .slice a n k, Z7 c, y0, y1, y2, Z7 p]
theorem Bx.two {w : World} {g t : Nat} {cs : Array Value} (h : Bx w g cs t) (o : Nat) (x y : Value) (h0 : cs[o]? = some x) (h1 : cs[o + 1]? = some y) : w.rangeAt g o [x, y] := fun j v hj => by
 rw [cell_of_row w g _ _ _ (0, 0) h]
 rcases j with _ | _ | j
 ·exact h0.trans hj
 ·exact h1.trans hj
 ·simp at hj
theorem Kz {w : World} {g : Nat} {x0 x1 y0 y1 y2 : Value} {a : Option Addr} {n k : Nat} {c p : Int} (h : Bx w g (VU x0 x1 a n k c y0 y1 y2 p) 35) : (Instr.loadAt 35 (Z5 g 0)).run Try.prog w = .ok (.agg (VU x0 x1 a n k c y0 y1 y2 p)) w :=
 run_loadAt_mid w g 0 35 (VU x0 x1 a n k c y0 y1 y2 p).toList _ (fun j v hv => by
  rw [cell_of_row w g _ _ _ (0, 0) h]
  simpa using hv) Try.underlying35 rfl (by kernel_rfl)
theorem OD {w : World} {g : Nat} {cs : Array Value} {x0 x1 y0 y1 y2 : Value} {a : Option Addr} {n k : Nat} {c p : Int} (h : Bx w g cs 35) (hz : cs.size = 8) (h1 : (VU x0 x1 a n k c y0 y1 y2 p).all (·.oneCell') = true) : (Instr.storeAt 35 (Z5 g 0) (.agg (VU x0 x1 a n k c y0 y1 y2 p))).run Try.prog w = .ok () (w.setRow g (VU x0 x1 a n k c y0 y1 y2 p)) ∧ Bx (w.setRow g (VU x0 x1 a n k c y0 y1 y2 p)) g (VU x0 x1 a n k c y0 y1 y2 p) 35 :=
 ⟨YW h hz h1 (by kernel_rfl), h.set⟩
theorem WZ {w w' : World} {g : Nat} {a : Option Addr} {cs : List Value} (h : Cs w a cs) (hb : But g w w') (hn : cs ≠ [] → ∀ x, a = some x → x.block ≠ g) : Cs w' a cs := by
 cases cs with
 | nil => exact Cs.nil _ _
 | cons v r => exact h.but hb (hn (by simp))
theorem Oz {w : World} {a : Option Addr} {cs : List Value} (h : Cs w a cs) (hne : cs ≠ []) : ∀ x, a = some x → x.block < w.heap.size := fun x hx => by
 obtain ⟨b, off, e, hb, -⟩ := h 0 (cs[0]'(List.length_pos_iff.2 hne)) (List.getElem?_eq_getElem _)
 rw [hx] at e
 cases e
 exact hb
def og (w : World) (X : List Ac × Int) (p : Int) (e : Ending) (w' : World) : Prop := (X.2 = 0 ∧ ∃ a k, e = .returned (.tuple #[.agg (VU (.slice a X.1.length k) (Z7 0) a X.1.length k 0 (.slice none 0 0) (Z7 0) ZY p), Z8 0]) ∧ Cs w' a (acc X.1) ∧ X.1.length ≤ k ∧ (∀ x, a = some x → w.heap.size ≤ x.block) ∧ Below w.heap.size w w') ∨
 (X.2 ≠ 0 ∧ e = .returned (.tuple #[.agg #[.slice none 0 0, Z7 0, .slice none 0 0, Z7 0, .slice none 0 0, Z7 0, ZY, Z7 0], Z8 X.2]) ∧ Below w.heap.size w w')
theorem Af (A : List Ac) (a : Option Addr) (k : Nat) (p : Int) (w : World) (hR : Cs w a (acc A)) (hn : A.length ≤ 4398046511104) (hw : Xz A) (hz : ∀ x, x ∈ A → x.1.size ≤ 140737488355328) :
  Calls Try.prog 11 #[.slice a A.length k, Z7 p] w (og w (X4 A) p) := by
 have hb0 : Below w.heap.size w (w.alloc (.cells #[.slice none 0 0, Z7 0, .slice none 0 0, Z7 0, .slice none 0 0, Z7 0, ZY, Z7 0] 35)) := (Below.refl _ w).alloc (Nat.le_refl _) _
 have hX0 : Bx (w.alloc (.cells #[.slice none 0 0, Z7 0, .slice none 0 0, Z7 0, .slice none 0 0, Z7 0, ZY, Z7 0] 35)) w.heap.size #[.slice none 0 0, Z7 0, .slice none 0 0, Z7 0, .slice none 0 0, Z7 0, ZY, Z7 0] 35 := heap_alloc_last w _
 have CG := LV a k A (w.alloc (.cells #[.slice none 0 0, Z7 0, .slice none 0 0, Z7 0, .slice none 0 0, Z7 0, ZY, Z7 0] 35)) (hR.below hb0) hn hw hz
 have e1 : Rk A = ((X4 A).1, 0, (X4 A).2) := rfl
 rw [e1] at CG
 generalize X4 A = X at *
 clear hR hn hw hz e1
 go_enter Try.func11, Try.ntmps11
 go_upto_region 1 with fail
 change Code.wp _ _ _ _ (w.alloc (.cells #[.slice none 0 0, Z7 0, .slice none 0 0, Z7 0, .slice none 0 0, Z7 0, ZY, Z7 0] 35))
 generalize w.alloc (.cells #[.slice none 0 0, Z7 0, .slice none 0 0, Z7 0, .slice none 0 0, Z7 0, ZY, Z7 0] 35) = W at *
 obtain ⟨g4, hg4⟩ := ZR w.heap.size
 have HB0 := Z9 hb0
 have HG : Hid (w.heap.size ≤ g4) := Z9 (by omega)
 rw [hg4] at hX0
 simp only [hg4]
 clear hb0 hg4
 refine wl <| ZV (.slice a A.length k) <|
  Yl (fun v w' => ∃ ad kk, v = .tuple #[.agg (ZU ad X.1.length kk 0), Z8 X.2] ∧ ZB w' W.heap.size (.slice ad X.1.length kk) X.1 ∧ Below W.heap.size W w') (CG.mono fun e w' q => by obtain ⟨ad, kk, h1, h2⟩ := q; exact ⟨_, h1, ad, kk, rfl, h2⟩) (fun vv W1 hq => ?_)
 obtain ⟨ad, kk, rfl, hrow, hb1⟩ := hq
 obtain ⟨V2, hst2, hb2, hY2⟩ := VE W1 ad X.1.length kk 0
 simp only [pu]
 refine YT (.tuple #[.agg (ZU ad X.1.length kk 0), Z8 X.2]) (.agg (ZU ad X.1.length kk 0)) (Z8 X.2) ?_
 simp only [pu]
 refine Zz rfl (some 6) rfl (Z5 W1.heap.size 0) (W1.alloc (.cells (ZU none 0 0 0) 33)) (by kernel_rfl) ?_
 simp only [pu]
 refine Zt rfl (hst2) <| ZV (Z8 X.2) <| wn ?_
 simp only [pu]
 obtain ⟨g6, Vk⟩ := ZR W1.heap.size
 have hb3 := hb1.trans (hb2.mono hb1.size)
 have hX2 := hX0.below hX0.lt hb3
 have hrow2 := own_below hrow hb2
 rw [Vk] at hY2 hst2 ⊢
 have hbw := HB0.out.trans (hb3.mono HB0.out.size)
 clear CG hst2 hrow hb1 hb2 Vk
 by_cases he : X.2 = 0
 ·go_upto_region 2 with fail
  refine wl <| ZV (Z8 X.2) <| ZM (YZ rfl X.2 0 (decide_eq_true he)) <| wn ?_
  simp only [pu]
  obtain ⟨hst3, JR⟩ := OD (x0 := .slice ad X.1.length kk) (x1 := Z7 0) (a := ad) (n := X.1.length) (k := kk) (c := 0) (y0 := .slice none 0 0) (y1 := Z7 0) (y2 := ZY) (p := p) hX2 rfl (by simp [Value.oneCell'])
  have hb4 := ZT hbw HG.out (VU (.slice ad X.1.length kk) (Z7 0) ad X.1.length kk 0 (.slice none 0 0) (Z7 0) ZY p)
  have hrow3 := Zv hrow2 (But.setRow (g := g4) V2 (VU (.slice ad X.1.length kk) (Z7 0) ad X.1.length kk 0 (.slice none 0 0) (Z7 0) ZY p)) hX0.lt
  obtain ⟨a9, c9, e9, hcs, hk⟩ := Yj hrow3
  simp only [Value.slice.injEq, true_and] at e9
  obtain ⟨rfl, rfl⟩ := e9
  have HE : Hid (og w X p (.returned (.tuple #[.agg (VU (.slice ad X.1.length kk) (Z7 0) ad X.1.length kk 0 (.slice none 0 0) (Z7 0) ZY p), Z8 0])) (V2.setRow g4 (VU (.slice ad X.1.length kk) (Z7 0) ad X.1.length kk 0 (.slice none 0 0) (Z7 0) ZY p))) := Z9 (.inl ⟨he, ad, kk, rfl, hcs, hk, fun x hx => Nat.le_trans HB0.out.size (Nb (A := X.1) hrow3 x hx), hb4⟩)
  generalize V2.setRow g4 (VU (.slice ad X.1.length kk) (Z7 0) ad X.1.length kk 0 (.slice none 0 0) (Z7 0) ZY p) = V3 at *
  clear hX2 hb4 hrow2 hrow3 hcs
  go_upto_region 4 with fail
  refine wl <| ZI rfl ⟨g6, 0, none⟩ (.agg (ZU ad X.1.length kk 0)) (ZQ hY2) <| ZI rfl ⟨g6, 0, none⟩ (.agg (ZU ad X.1.length kk 0)) (ZQ hY2) <|
   ZG (Z7 p) (.agg (VU (.slice ad X.1.length kk) (Z7 0) ad X.1.length kk 0 (.slice none 0 0) (Z7 0) ZY p)) <| Zt rfl (hst3) <| ZV (Z8 0) <| wn ?_
  simp only [pu]
  go_wp2_with fail
  exact bodyPost_ret (ZP rfl (by kernel_rfl) (Kz JR) rfl) rfl HE.out
 ·go_upto_region 2 with fail
  refine wl <| ZV (Z8 X.2) <| ZM (YZ rfl X.2 0 (decide_eq_false he)) <| wn ?_
  simp only [pu]
  obtain ⟨hst3, JR⟩ := OD (x0 := .slice none 0 0) (x1 := Z7 0) (a := none) (n := 0) (k := 0) (c := 0) (y0 := .slice none 0 0) (y1 := Z7 0) (y2 := ZY) (p := 0) hX2 rfl (by simp [Value.oneCell'])
  have hb4 := ZT hbw HG.out (VU (.slice none 0 0) (Z7 0) none 0 0 0 (.slice none 0 0) (Z7 0) ZY 0)
  have HE : Hid (og w X p (.returned (.tuple #[.agg (VU (.slice none 0 0) (Z7 0) none 0 0 0 (.slice none 0 0) (Z7 0) ZY 0), Z8 X.2])) (V2.setRow g4 (VU (.slice none 0 0) (Z7 0) none 0 0 0 (.slice none 0 0) (Z7 0) ZY 0))) := Z9 (.inr ⟨he, rfl, hb4⟩)
  generalize V2.setRow g4 (VU (.slice none 0 0) (Z7 0) none 0 0 0 (.slice none 0 0) (Z7 0) ZY 0) = V3 at *
  clear hX2 hb4 hrow2
  go_upto_region 3 with fail
  refine wl <| ZG (.agg (VU (.slice none 0 0) (Z7 0) none 0 0 0 (.slice none 0 0) (Z7 0) ZY 0)) (Z8 X.2) <| Zt rfl (hst3) <| ZV (Z8 X.2) <| wn ?_
  simp only [pu]
  go_wp2_with fail
  exact bodyPost_ret (ZP rfl (by kernel_rfl) (Kz JR) rfl) rfl HE.out
end Go.Proofs.Ytnhlpahoomcgnaa.Lg
namespace Go.Proofs.Ytnhlpahoomcgnaa.Lg
open Mo (Zd Zm YL YU)
open Go.RowKit
def fD (w : World) (X : List Ac × Int) (R : List XZ) (e : Ending) (w' : World) : Prop := ∃ ad k v, e = .returned (.tuple #[.agg (ZU ad X.1.length k X.2), v]) ∧ Cs w' ad (acc X.1) ∧ X.1.length ≤ k ∧ Wy w' w.heap.size v R ∧ Below w.heap.size w w'
def Un (A : List Ac) (t : Zf) : Ac × Int := if (Zw A t.snd).2 = false then (Xg, 13) else if (Zw A t.snd).1.2.2 ≠ t.sq then (Xg, 14) else if t.sq = 18446744073709551615 then (Xg, 6) else ((Zw A t.snd).1, 0)
def P5 (t : Zf) (price size : Int) : Int := if t.Zk < Zd size t.tr.length then 15 else if YL t.Zk price = false then 6 else if t.Y6 < YU t.Zk price then 16 else 0
def Q5 (A : List Ac) (c : Int) (t : Zf) : List Ac × Int × Int := if Vp t = false then ([], 0, 6) else if (Zw A t.snd).1.2.1 < X9 t then ([], 0, 17) else (Xd A t, c, 0)
def Q7 (A : List Ac) (c : Int) (t : Zf) : List Ac × Int × Int := if 256 < (Yt A t).length then ([], 0, 3) else (Yt A t, c, 0)
def VT (A : List Ac) (c price : Int) (t : Zf) (size : Int) : List Ac × Int × Int := if Yy A price t size = 0 then (Yt A t, c + t.Y6, 0) else ([], 0, Yy A price t size)
theorem vM {A : List Ac} {c price size : Int} {t : Zf} (h : (Un A t).2 ≠ 0) : VT A c price t size = ([], 0, (Un A t).2) := by
 have e : Yy A price t size = (Un A t).2 := by
  revert h
  unfold Un Yy
  by_cases h1 : (Zw A t.snd).2 = false
  ·rw [if_pos h1, if_pos h1]; intro _; rfl
  rw [if_neg h1, if_neg h1]
  by_cases h2 : (Zw A t.snd).1.2.2 ≠ t.sq
  ·rw [if_pos h2, if_pos h2]; intro _; rfl
  rw [if_neg h2, if_neg h2]
  by_cases h3 : t.sq = 18446744073709551615
  ·rw [if_pos h3, if_pos h3]; intro _; rfl
  rw [if_neg h3, if_neg h3]; intro h4; exact absurd rfl h4
 unfold VT
 rw [e, if_neg h]
theorem zZ {A : List Ac} {t : Zf} (h : (Un A t).2 = 0) : (Zw A t.snd).2 = true ∧ (Zw A t.snd).1.2.2 = t.sq ∧ ¬ t.sq = 18446744073709551615 ∧ (Un A t).1 = (Zw A t.snd).1 := by
 revert h
 unfold Un
 by_cases h1 : (Zw A t.snd).2 = false
 ·rw [if_pos h1]; intro h; exact absurd h (by decide)
 rw [if_neg h1]
 by_cases h2 : (Zw A t.snd).1.2.2 ≠ t.sq
 ·rw [if_pos h2]; intro h; exact absurd h (by decide)
 rw [if_neg h2]
 by_cases h3 : t.sq = 18446744073709551615
 ·rw [if_pos h3]; intro h; exact absurd h (by decide)
 rw [if_neg h3]; intro _
 exact ⟨by simpa using h1, Decidable.not_not.1 h2, h3, rfl⟩
theorem RH {A : List Ac} {price size : Int} {t : Zf} (h : (Un A t).2 = 0) : Yy A price t size = if P5 t price size ≠ 0 then P5 t price size else if Vp t = false then 6 else if (Zw A t.snd).1.2.1 < X9 t then 17 else if 256 < (Yt A t).length then 3 else 0 := by
 obtain ⟨h1, h2, h3, -⟩ := zZ h
 unfold Yy P5
 rw [if_neg (by rw [h1]; decide), if_neg (fun q => q h2), if_neg h3]
 by_cases h4 : t.Zk < Zd size t.tr.length
 ·rw [if_pos h4, if_pos h4, if_pos (by decide)]
 rw [if_neg h4, if_neg h4]
 by_cases h5 : YL t.Zk price = false
 ·rw [if_pos h5, if_pos h5, if_pos (by decide)]
 rw [if_neg h5, if_neg h5]
 by_cases h6 : t.Y6 < YU t.Zk price
 ·rw [if_pos h6, if_pos h6, if_pos (by decide)]
 rw [if_neg h6, if_neg h6]
 rfl
theorem vK {A : List Ac} {c price size : Int} {t : Zf} (h : (Un A t).2 = 0) (h1 : P5 t price size ≠ 0) : VT A c price t size = ([], 0, P5 t price size) := by
 have e := RH (price := price) (size := size) h
 rw [if_pos h1] at e
 unfold VT
 rw [e, if_neg h1]
theorem vJ {A : List Ac} {c price size : Int} {t : Zf} (h : (Un A t).2 = 0) (h1 : P5 t price size = 0) (h2 : (Q5 A c t).2.2 ≠ 0) : VT A c price t size = ([], 0, (Q5 A c t).2.2) := by
 have e := RH (price := price) (size := size) h
 rw [if_neg (by rw [h1]; decide)] at e
 have e2 : Yy A price t size = (Q5 A c t).2.2 := by
  revert h2
  rw [e]
  unfold Q5
  by_cases c1 : Vp t = false
  ·rw [if_pos c1, if_pos c1]; intro _; rfl
  rw [if_neg c1, if_neg c1]
  by_cases c2 : (Zw A t.snd).1.2.1 < X9 t
  ·rw [if_pos c2, if_pos c2]; intro _; rfl
  rw [if_neg c2]; intro h; exact absurd rfl h
 unfold VT
 rw [e2, if_neg h2]
theorem zY {A : List Ac} {c : Int} {t : Zf} (h2 : (Q5 A c t).2.2 = 0) : Vp t = true ∧ ¬ (Zw A t.snd).1.2.1 < X9 t ∧ Q5 A c t = (Xd A t, c, 0) := by
 revert h2
 unfold Q5
 by_cases c1 : Vp t = false
 ·rw [if_pos c1]; intro h; exact absurd h (by decide)
 rw [if_neg c1]
 by_cases c2 : (Zw A t.snd).1.2.1 < X9 t
 ·rw [if_pos c2]; intro h; exact absurd h (by decide)
 rw [if_neg c2]; intro _
 exact ⟨by simpa using c1, c2, rfl⟩
theorem vI {A : List Ac} {c price size : Int} {t : Zf} (h : (Un A t).2 = 0) (h1 : P5 t price size = 0) (h2 : (Q5 A c t).2.2 = 0) : VT A c price t size = if (Q7 A c t).2.2 = 0 then ((Q7 A c t).1, c + t.Y6, 0) else ([], 0, (Q7 A c t).2.2) := by
 obtain ⟨c1, c2, -⟩ := zY h2
 have e := RH (price := price) (size := size) h
 rw [if_neg (by rw [h1]; decide), if_neg (by rw [c1]; decide), if_neg c2] at e
 unfold VT Q7
 rw [e]
 by_cases c3 : 256 < (Yt A t).length
 ·rw [if_pos c3, if_pos c3, if_neg (by decide), if_neg (by decide)]
 ·rw [if_neg c3, if_neg c3, if_pos rfl]
theorem nY {A : List Ac} {c price : Int} {L : List Int} (hv : Y8 A c = 0) (hd : (Zq L).2 = 0) : Vq A c price L = (if (VT A c price (Zq L).1 L.length).2.2 = 0 then ((VT A c price (Zq L).1 L.length).1, (VT A c price (Zq L).1 L.length).2.1) else (A, c), ⟨(VT A c price (Zq L).1 L.length).2.2, (Zq L).1.snd, (Zq L).1.sq, (Zq L).1.Zk, Zm (Zq L).1.Y6 (Zq L).1.Zk⟩) := by
 unfold Vq VT
 rw [if_neg (by rw [hv]; decide), if_neg (by rw [hd]; decide)]
 by_cases h : Yy A price (Zq L).1 L.length = 0
 ·rw [h, if_neg (by decide), if_pos rfl, if_pos rfl]
 ·rw [if_pos h, if_neg h, if_neg h]
theorem OC (A : List Ac) (s : ByteArray) : Wj A s = (s, (Zw A s).1.2.1, (Zw A s).1.2.2) := by
 unfold Wj Zw
 by_cases h : Ze A s < A.length
 ·rw [if_pos h, if_pos h]
  have := (Sv h).1
  show aca A (Ze A s) = (s, (aca A (Ze A s)).2.1, (aca A (Ze A s)).2.2)
  generalize aca A (Ze A s) = y at *
  subst this
  rfl
 ·rw [if_neg h, if_neg h]; rfl
theorem Kr {A : List Ac} {c : Int} {t : Zf} (hv : Y8 A c = 0) (h1 : (Zw A t.snd).2 = true) (h0 : 0 ≤ X9 t) : TB A c ((Zw A t.snd).1.1, (Zw A t.snd).1.2.1 - X9 t, (Zw A t.snd).1.2.2 + 1) = (Xd A t, c, 0) := by
 obtain ⟨v1, v2, v3, v4⟩ := Xc hv
 obtain ⟨f1, f2, f3⟩ := Xu h1
 have hs : Y9 A ((Zw A t.snd).1.1, (Zw A t.snd).1.2.1 - X9 t, (Zw A t.snd).1.2.2 + 1) = Xd A t := rfl
 have hl : (Xd A t).length = A.length := by
  rw [← hs, Ye]; simp only [f3]; rw [if_pos f1]
 have ht : Yp (Xd A t) c = true := decide_eq_true (by
  have v5 : tot (c :: Zy A) < 18446744073709551616 := of_decide_eq_true v4
  rw [YQ] at v5 ⊢
  rw [IC h1]; omega)
 rw [Ol hv (by show isName (nums (Zw A t.snd).1.1) = true; rw [f2]; exact v3 _ f1) (by rw [hs, hl]; omega), hs, ht]
 rfl
theorem vk {A : List Ac} {c : Int} {t : Zf} (hv : Y8 A c = 0) (h1 : (Zw A t.snd).2 = true) (h0 : 0 ≤ X9 t) : Y8 (Xd A t) c = 0 := by
 have h := Kr hv h1 h0
 obtain ⟨-, -, -, h4⟩ := Ij (A := A) (c := c) (a := ((Zw A t.snd).1.1, (Zw A t.snd).1.2.1 - X9 t, (Zw A t.snd).1.2.2 + 1)) (by rw [h])
 exact h4
theorem Ko {B : List Ac} {c : Int} {x : Tf} (hv : Y8 B c = 0) (hn : isName (nums x.1) = true) (ht : c + (tot (Zy B) + x.2) < 18446744073709551616) : TB B c (x.1, (Zw B x.1).1.2.1 + x.2, (Zw B x.1).1.2.2) = if 256 < (Xe B x).length then ([], 0, 3) else (Xe B x, c, 0) := by
 have hs : Y9 B (x.1, (Zw B x.1).1.2.1 + x.2, (Zw B x.1).1.2.2) = Xe B x := by unfold Xe; rw [OC]
 by_cases hl : 256 < (Xe B x).length
 ·rw [if_pos hl]
  exact Ep hv hn (by rw [hs]; exact hl)
 ·rw [if_neg hl, Ol hv hn (by rw [hs]; exact hl), hs]
  have ht : Yp (Xe B x) c = true := decide_eq_true (by rw [YQ, IE]; exact ht)
  rw [ht]; rfl
theorem vg {B : List Ac} {c : Int} {x : Tf} (hv : Y8 B c = 0) (hn : isName (nums x.1) = true) (ht : c + (tot (Zy B) + x.2) < 18446744073709551616) (hl : ¬ 256 < (Xe B x).length) : Y8 (Xe B x) c = 0 := by
 have h := Ko hv hn ht
 rw [if_neg hl] at h
 obtain ⟨h3, -, -, h4⟩ := Ij (A := B) (c := c) (a := (x.1, (Zw B x.1).1.2.1 + x.2, (Zw B x.1).1.2.2)) (by rw [h])
 rw [h] at h3
 rw [Prod.mk.injEq] at h3
 rw [h3.1]; exact h4
theorem uX (A : List Ac) (x : Tf) : A.length ≤ (Xe A x).length := by
 unfold Xe; rw [Ye]; split <;> omega
theorem J8 : ∀ (L : List Tf) (A : List Ac), A.length ≤ (L.foldl Xe A).length
 | [], _ => Nat.le_refl _
 | x :: L, A => by rw [List.foldl_cons]; exact Nat.le_trans (uX A x) (J8 L _)
theorem E8 (A : List Ac) (t : Zf) (j : Nat) : (Ul A t j).length ≤ (Yt A t).length := by
 unfold Yt Ul
 rw [List.take_length]
 have h : (t.tr.foldl Xe (Xd A t)) = (t.tr.drop j).foldl Xe ((t.tr.take j).foldl Xe (Xd A t)) := by rw [← List.foldl_append, List.take_append_drop]
 rw [h]
 exact J8 _ _
end Go.Proofs.Ytnhlpahoomcgnaa.Lg
