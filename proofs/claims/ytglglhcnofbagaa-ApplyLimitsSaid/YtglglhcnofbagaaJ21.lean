/-
  The reference's Tx: contract. The reference's Tx: contract. The statements' Raw: contract. What a transaction that is carried out keeps: a valid ledger, the total, the sequences.
-/
import Derived.Test.YtglglhcnofbagaaJ20
namespace Go.Proofs.Ytglglhcnofbagaa.Lg
set_option maxRecDepth 100000
open Mo (usedV prioV mulB mulV)
open Go.RowKit
set_option linter.unusedSimpArgs false
set_option linter.unusedVariables false

theorem res_one (r : Res) : (resA r).all (·.oneCell') = true := by simp [Value.oneCell']
theorem store_res {w : World} {g : Nat} {r q : Res} (h : Bx w g (resA r) 40) : (Instr.storeAt 40 (.pointer (some ⟨g, 0, none⟩)) (.agg (resA q))).run Try.prog w = .ok () (w.setRow g (resA q)) ∧ Bx (w.setRow g (resA q)) g (resA q) 40 :=
 ⟨run_store_all h rfl (res_one q) (by kernel_rfl), h.set⟩
theorem load_res {w : World} {g k : Nat} {r : Res} (h : Bx w g (resA r) k) : (Instr.loadAt 40 (.pointer (some ⟨g, 0, none⟩))).run Try.prog w = .ok (.agg (resA r)) w :=
 run_loadAt_mid w g 0 40 (resA r).toList _ (fun j v hv => by
  rw [cell_of_row w g _ _ _ (0, 0) h]
  simpa using hv) Try.underlying40 rfl (by kernel_rfl)
theorem results_2c {fn : Func} {tmps : Array Value} {w : World} {p ty g q ty2 g2 : Nat} {v v2 : Value} (hr : fn.results = #[.cell p ty, .cell q ty2]) (h2 : tmps.getD p undef = .pointer (some ⟨g, 0, none⟩)) (hl : (Instr.loadAt ty (.pointer (some ⟨g, 0, none⟩))).run Try.prog w = .ok v w) (h4 : tmps.getD q undef = .pointer (some ⟨g2, 0, none⟩)) (hl2 : (Instr.loadAt ty2 (.pointer (some ⟨g2, 0, none⟩))).run Try.prog w = .ok v2 w) : (results fn tmps).run Try.prog w = .ok (.tuple #[v, v2]) w := by
 unfold results
 rw [hr]
 have h2' : tmps[p]?.getD undef = .pointer (some ⟨g, 0, none⟩) := by simpa using h2
 have h4' : tmps[q]?.getD undef = .pointer (some ⟨g2, 0, none⟩) := by simpa using h4
 have hl' := hl
 have hl2' := hl2
 simp only [Instr.loadAt, Instr.sureAddr, Sem.run_bind, Sem.run_pure, Result.andThen_ok] at hl' hl2'
 simp [h2', h4', asAddr, hl', hl2', Result.andThen]
/-- What Tx hands back: a ledger that reads, and the result. -/
def TxO (w : World) (la : Option Addr) (A : List Ac) (X : (List Ac × Int) × Res) (e : Ending) (w' : World) : Prop := ∃ ad k, e = .returned (.tuple #[.agg (lgA ad X.1.1.length k X.1.2), .agg (resA X.2)]) ∧ Cs w' ad (acc X.1.1) ∧ X.1.1.length ≤ k ∧ ((ad = la ∧ X.1.1 = A) ∨ ∀ x, ad = some x → w.heap.size ≤ x.block) ∧ Below w.heap.size w w'
theorem row_ge {w : World} {B n k : Nat} {ad : Option Addr} {A : List Ac} (h : RowA w B (.slice ad n k) A) : ∀ x, ad = some x → B ≤ x.block := fun x hx => by
 rcases h.2 with ⟨e, -⟩ | ⟨g, cap, cur, e, hB, -⟩
 ·simp only [Value.slice.injEq] at e; rw [e.1] at hx; cases hx
 ·simp only [Value.slice.injEq] at e; rw [e.1] at hx; cases hx; exact hB
/-- What the region keeps in which the result is made. -/
structure KT (W : World) (r : Res) (bA bS : Bool) (x : Value) (V : World) : Prop where
 bel : Below W.heap.size W V
 o : bS = true → bA = true
 box : bA = true → ∃ g, x = .pointer (some ⟨g, 0, none⟩) ∧ W.heap.size ≤ g ∧ (bS = false → Bx V g (resA (zRes 0)) 40) ∧ (bS = true → Bx V g (resA r) 40)
theorem KT.alloc {W : World} {r : Res} {bS : Bool} {x : Value} {V : World} (h : KT W r false bS x V) : KT W r true bS (.pointer (some ⟨V.heap.size, 0, none⟩)) (V.alloc (.cells (resA (zRes 0)) 40)) := by
 obtain rfl := ff h.o rfl
 have hb : Below V.heap.size V (V.alloc (.cells (resA (zRes 0)) 40)) := (Below.refl _ V).alloc (Nat.le_refl _) _
 exact ⟨h.bel.trans (hb.mono h.bel.size), fun _ => rfl, fun _ => ⟨V.heap.size, rfl, h.bel.size, fun _ => heap_alloc_last V _, (fun e => nomatch e)⟩⟩
theorem KT.more {W : World} {r : Res} {bA bS : Bool} {x : Value} {V V2 : World} (h : KT W r bA bS x V) (hb : Below V.heap.size V V2) : KT W r bA bS x V2 :=
 ⟨h.bel.trans (hb.mono h.bel.size), h.o, fun e => by
  obtain ⟨g, h1, h2, h3, h4⟩ := h.box e
  exact ⟨g, h1, h2, fun e => (h3 e).below (h3 e).lt hb, fun e => (h4 e).below (h4 e).lt hb⟩⟩
theorem KT.store {W : World} {r : Res} {x : Value} {V : World} (h : KT W r true false x V) : ∃ g V2, x = .pointer (some ⟨g, 0, none⟩) ∧ (Instr.storeAt 40 (.pointer (some ⟨g, 0, none⟩)) (.agg (resA r))).run Try.prog V = .ok () V2 ∧ KT W r true true (.pointer (some ⟨g, 0, none⟩)) V2 := by
 obtain ⟨g, rfl, h2, h3, -⟩ := h.box rfl
 have hst := store_res (q := r) (h3 rfl)
 exact ⟨g, _, rfl, hst.1, belowRow h.bel h2 _, fun _ => rfl, fun _ => ⟨g, rfl, h2, (fun e => nomatch e), fun _ => hst.2⟩⟩
/-- The blocks that the last regions read. -/
structure PZ (g3 g8 g10 B : Nat) (lc : Array Value) (t : Txd) (ta : Option Addr) (tk : Nat) (r : Res) (V : World) : Prop where
 x3 : Bx V g3 lc 27
 x8 : Bx V g8 (txA t ta tk) 32
 x10 : Bx V g10 (resA r) 40
 row : RowT V B (.slice ta t.tr.length tk) t.tr
theorem PZ.but {g3 g8 g10 B g : Nat} {lc : Array Value} {t : Txd} {ta : Option Addr} {tk : Nat} {r : Res} {V V2 : World} (h : PZ g3 g8 g10 B lc t ta tk r V) (hb : But g V V2) (h3 : g3 ≠ g) (h8 : g8 ≠ g) (h10 : g10 ≠ g) (hB : g < B) : PZ g3 g8 g10 B lc t ta tk r V2 :=
 ⟨h.x3.but hb h3, h.x8.but hb h8, h.x10.but hb h10, own_but h.row hb hB⟩
theorem PZ.more {g3 g8 g10 B : Nat} {lc : Array Value} {t : Txd} {ta : Option Addr} {tk : Nat} {r : Res} {V V2 : World} (h : PZ g3 g8 g10 B lc t ta tk r V) (hb : Below V.heap.size V V2) : PZ g3 g8 g10 B lc t ta tk r V2 :=
 ⟨h.x3.below h.x3.lt hb, h.x8.below h.x8.lt hb, h.x10.below h.x10.lt hb, own_below h.row hb⟩
/-- The two results are stored, in whatever order; a ledger's row that was handed back stays. -/
structure KS (w : World) (g6 g7 B : Nat) (P : World → Prop) (Q : List Ac) (cc : Int) (r : Res) (bC s6 s7 : Bool) (x : Value) (V : World) : Prop where
 bel : Below w.heap.size w V
 p : P V
 o : s6 = true → bC = true
 row : bC = true → ∃ ad k, x = .agg (lgA ad Q.length k cc) ∧ Q.length ≤ k ∧ RowA V B (.slice ad Q.length k) Q
 x6 : s6 = false → Bx V g6 (lgA none 0 0 0) 27
 y6 : s6 = true → ∃ ad k, x = .agg (lgA ad Q.length k cc) ∧ Bx V g6 (lgA ad Q.length k cc) 27
 x7 : Bx V g7 (resA (cond s7 r (zRes 0))) 40
theorem KS.call {w : World} {g6 g7 B : Nat} {P : World → Prop} {Q : List Ac} {cc : Int} {r : Res} {s6 s7 : Bool} {x : Value} {V V2 : World} (h : KS w g6 g7 B P Q cc r false s6 s7 x V) (hB : B ≤ V.heap.size) (hP : P V2) (hb : Below V.heap.size V V2) {ad : Option Addr} {k : Nat} (hr : RowA V2 V.heap.size (.slice ad Q.length k) Q) : KS w g6 g7 B P Q cc r true s6 s7 (.agg (lgA ad Q.length k cc)) V2 := by
 obtain rfl := ff h.o rfl
 obtain ⟨a9, k9, e9, -, hk⟩ := hr.cs
 simp only [Value.slice.injEq, true_and] at e9
 obtain ⟨rfl, rfl⟩ := e9
 exact ⟨h.bel.trans (hb.mono h.bel.size), hP, (fun e => nomatch e), fun _ => ⟨_, _, rfl, hk, own_base hr hB⟩, fun e => (h.x6 e).below (h.x6 e).lt hb, (fun e => nomatch e), h.x7.below h.x7.lt hb⟩
theorem KS.st6 {w : World} {g6 g7 B : Nat} {P : World → Prop} {Q : List Ac} {cc : Int} {r : Res} {s7 : Bool} {x : Value} {V : World} (h : KS w g6 g7 B P Q cc r true false s7 x V) (hP : ∀ V2, But g6 V V2 → P V2) (h6 : w.heap.size ≤ g6) (hB : g6 < B) (hn : g7 ≠ g6) : ∃ ad k V2, x = .agg (lgA ad Q.length k cc) ∧ (Instr.storeAt 27 (.pointer (some ⟨g6, 0, none⟩)) (.agg (lgA ad Q.length k cc))).run Try.prog V = .ok () V2 ∧ KS w g6 g7 B P Q cc r true true s7 (.agg (lgA ad Q.length k cc)) V2 := by
 obtain ⟨ad, k, rfl, hk, hr⟩ := h.row rfl
 have hst := store_lg (a' := ad) (n' := Q.length) (k' := k) (c' := cc) (h.x6 rfl)
 have hbt : But g6 V (V.setRow g6 (lgA ad Q.length k cc)) := But.setRow _ _
 exact ⟨ad, k, _, rfl, hst.1, belowRow h.bel h6 _, hP _ hbt, fun _ => rfl, fun _ => ⟨ad, k, rfl, hk, own_but hr hbt hB⟩, (fun e => nomatch e), fun _ => ⟨ad, k, rfl, hst.2⟩, h.x7.but hbt hn⟩
theorem KS.st7 {w : World} {g6 g7 B : Nat} {P : World → Prop} {Q : List Ac} {cc : Int} {r : Res} {bC s6 : Bool} {x : Value} {V : World} (h : KS w g6 g7 B P Q cc r bC s6 false x V) (hP : ∀ V2, But g7 V V2 → P V2) (h7 : w.heap.size ≤ g7) (hB : g7 < B) (hn : g6 ≠ g7) : ∃ V2, (Instr.storeAt 40 (.pointer (some ⟨g7, 0, none⟩)) (.agg (resA r))).run Try.prog V = .ok () V2 ∧ KS w g6 g7 B P Q cc r bC s6 true x V2 := by
 have hst := store_res (q := r) h.x7
 have hbt : But g7 V (V.setRow g7 (resA r)) := But.setRow _ _
 exact ⟨_, hst.1, belowRow h.bel h7 _, hP _ hbt, h.o, fun e => by obtain ⟨ad, k, e1, hk, hr⟩ := h.row e; exact ⟨ad, k, e1, hk, own_but hr hbt hB⟩, fun e => (h.x6 e).but hbt hn, fun e => by obtain ⟨ad, k, e1, h2⟩ := h.y6 e; exact ⟨ad, k, e1, h2.but hbt hn⟩, hst.2⟩
/-- The ledger that was given and a result are stored, in whatever order. -/
structure K8 (w : World) (g6 g7 : Nat) (P : World → Prop) (lc : Array Value) (r : Res) (s6 s7 : Bool) (V : World) : Prop where
 bel : Below w.heap.size w V
 p : P V
 x6 : Bx V g6 (cond s6 lc (lgA none 0 0 0)) 27
 x7 : Bx V g7 (resA (cond s7 r (zRes 0))) 40
theorem K8.st6 {w : World} {g6 g7 : Nat} {P : World → Prop} {la : Option Addr} {n k : Nat} {c : Int} {r : Res} {s7 : Bool} {V : World} (h : K8 w g6 g7 P (lgA la n k c) r false s7 V) (hP : ∀ V2, But g6 V V2 → P V2) (h6 : w.heap.size ≤ g6) (hn : g7 ≠ g6) : ∃ V2, (Instr.storeAt 27 (.pointer (some ⟨g6, 0, none⟩)) (.agg (lgA la n k c))).run Try.prog V = .ok () V2 ∧ K8 w g6 g7 P (lgA la n k c) r true s7 V2 := by
 have hst := store_lg (a' := la) (n' := n) (k' := k) (c' := c) h.x6
 have hbt : But g6 V (V.setRow g6 (lgA la n k c)) := But.setRow _ _
 exact ⟨_, hst.1, belowRow h.bel h6 _, hP _ hbt, hst.2, h.x7.but hbt hn⟩
theorem K8.st7 {w : World} {g6 g7 : Nat} {P : World → Prop} {lc : Array Value} {r : Res} {s6 : Bool} {V : World} (h : K8 w g6 g7 P lc r s6 false V) (hP : ∀ V2, But g7 V V2 → P V2) (h7 : w.heap.size ≤ g7) (hn : g6 ≠ g7) : ∃ V2, (Instr.storeAt 40 (.pointer (some ⟨g7, 0, none⟩)) (.agg (resA r))).run Try.prog V = .ok () V2 ∧ K8 w g6 g7 P lc r s6 true V2 := by
 have hst := store_res (q := r) h.x7
 have hbt : But g7 V (V.setRow g7 (resA r)) := But.setRow _ _
 exact ⟨_, hst.1, belowRow h.bel h7 _, hP _ hbt, h.x6.but hbt hn, hst.2⟩
theorem K8.start {w V : World} {g6 g7 : Nat} {P : World → Prop} {lc : Array Value} {r : Res} (hb : Below w.heap.size w V) (hp : P V.drew) (h6 : Bx V g6 (lgA none 0 0 0) 27) (h7 : Bx V g7 (resA (zRes 0)) 40) : K8 w g6 g7 P lc r false false V.drew := ⟨hb.drew, hp, h6, h7⟩
theorem KS.start {w V : World} {g6 g7 B : Nat} {P : World → Prop} {Q : List Ac} {cc : Int} {r : Res} (hb : Below w.heap.size w V) (hp : P V.drew) (h6 : Bx V g6 (lgA none 0 0 0) 27) (h7 : Bx V g7 (resA (zRes 0)) 40) : KS w g6 g7 B P Q cc r false false false undef V.drew := ⟨hb.drew, hp, (fun e => nomatch e), (fun e => nomatch e), fun _ => h6, (fun e => nomatch e), h7⟩
theorem KT.start (V : World) (r : Res) : KT V r false false undef V.drew := ⟨(Below.refl _ V).drew, (fun e => nomatch e), (fun e => nomatch e)⟩
theorem PZ.drew {g3 g8 g10 B : Nat} {lc : Array Value} {t : Txd} {ta : Option Addr} {tk : Nat} {r : Res} {V : World} (h : PZ g3 g8 g10 B lc t ta tk r V) : PZ g3 g8 g10 B lc t ta tk r V.drew := ⟨h.x3, h.x8, h.x10, h.row⟩
theorem tx_1 {A : List Ac} {c price : Int} {L : List Int} (h : valE A c ≠ 0) : txX A c price L = ((A, c), zRes 1) := if_pos h
theorem tx_2 {A : List Ac} {c price : Int} {L : List Int} (h : valE A c = 0) (h2 : (decX L).2 ≠ 0) : txX A c price L = ((A, c), zRes (decX L).2) := by
 unfold txX; rw [if_neg (by rw [h]; decide), if_pos h2]
theorem tx_3 {A : List Ac} {c price : Int} {L : List Int} (h : valE A c = 0) (h2 : (decX L).2 = 0) (h3 : faultX A price (decX L).1 L.length ≠ 0) : txX A c price L = ((A, c), ⟨faultX A price (decX L).1 L.length, (decX L).1.snd, (decX L).1.sq, (decX L).1.gas, prioV (decX L).1.fee (decX L).1.gas⟩) := by
 unfold txX; rw [if_neg (by rw [h]; decide), if_neg (by rw [h2]; decide), if_pos h3]
theorem tx_4 {A : List Ac} {c price : Int} {L : List Int} (h : valE A c = 0) (h2 : (decX L).2 = 0) (h3 : faultX A price (decX L).1 L.length = 0) : txX A c price L = ((doneL A (decX L).1, c + (decX L).1.fee), ⟨faultX A price (decX L).1 L.length, (decX L).1.snd, (decX L).1.sq, (decX L).1.gas, prioV (decX L).1.fee (decX L).1.gas⟩) := by
 unfold txX; rw [if_neg (by rw [h]; decide), if_neg (by rw [h2]; decide), if_neg (by rw [h3]; decide), h3]
theorem fa_q {A : List Ac} {c price : Int} {L : List Int} (h8 : ∀ y, y ∈ L → W8 y) (hv : valE A c = 0) (hw : AcW A) (hc : W64 c) (hp : W64 price) (h2 : (decX L).2 = 0) : FaQ A c price (decX L).1 := by
 obtain ⟨h3, -, h4, -⟩ := dec_ok (t := (decX L).1) (fun x hx => h8 x hx) (by rw [← h2])
 exact ⟨hv, hw, hc, hp, h4.sq, h4.gas, h4.fee, h4.am, (val_ok h3 h4.sq h4.gas h4.fee h4.am).2.2⟩
/-- A transaction with no fault can be carried out. -/
theorem fault_0 {A : List Ac} {c price size : Int} {t : Txd} (h : FaQ A c price t) (h0 : faultX A price t size = 0) : DnQ A c t ∧ (doneL A t).length ≤ 256 := by
 unfold faultX at h0
 split at h0
 ·omega
 rename_i c1
 split at h0
 ·omega
 rename_i c2
 split at h0
 ·omega
 rename_i c3
 split at h0
 ·omega
 split at h0
 ·omega
 split at h0
 ·omega
 split at h0
 ·omega
 rename_i c4
 split at h0
 ·omega
 rename_i c5
 split at h0
 ·omega
 rename_i c6
 exact ⟨h.dn (by simpa using c1) (by simpa using c2) c3 (by simpa using c4) c5, by omega⟩
end Go.Proofs.Ytglglhcnofbagaa.Lg
namespace Go.Proofs.Ytglglhcnofbagaa.Lg
attribute [local irreducible] wpList wpQuiet
set_option maxRecDepth 100000
open Mo (usedV prioV mulB mulV)
open Go.RowKit
set_option linter.unusedSimpArgs false
set_option linter.unusedVariables false

set_option maxRecDepth 100000 in
set_option maxHeartbeats 8000000 in
theorem ref_tx (A : List Ac) (c price : Int) (L : List Int) (la ra : Option Addr) (lk rc : Nat) (w : World) (hL : Cs w la (acc A)) (hlk : A.length ≤ lk) (hn : A.length ≤ 4398046511104) (hc : W64 c) (hw : AcW A) (hz : ∀ x, x ∈ A → x.1.size ≤ 140737488355328) (hp : W64 price) (hR : Sl w ra rc L) (hrc : L.length ≤ rc) (h8 : ∀ y, y ∈ L → W8 y) :
  Calls Try.prog 7 #[.agg (lgA la A.length lk c), .int .u64 price, .slice ra L.length rc] w (TxO w la A (txX A c price L)) := by
 obtain ⟨hb0, hX3, hX6, hX7⟩ := three_boxes w (lgA la A.length lk c) (lgA none 0 0 0) (resA (zRes 0)) 27 27 40
 have hA := hL.below hb0
 have HLW := Lib.hid hL
 have HRW := Lib.hid hR
 obtain ⟨X, hX⟩ : ∃ X, txX A c price L = X := ⟨_, rfl⟩
 have H1 := Lib.hid (fun h => hX.symm.trans (tx_1 (price := price) (L := L) (A := A) (c := c) h))
 have H2 := Lib.hid (fun h h2 => hX.symm.trans (tx_2 (price := price) (L := L) (A := A) (c := c) h h2))
 have H3 := Lib.hid (fun h h2 h3 => hX.symm.trans (tx_3 (price := price) (L := L) (A := A) (c := c) h h2 h3))
 have H4 := Lib.hid (fun h h2 h3 => hX.symm.trans (tx_4 (price := price) (L := L) (A := A) (c := c) h h2 h3))
 have HFQ := Lib.hid (fun h h2 => fa_q h8 h hw hc hp h2 (A := A) (L := L))
 have CV := fun V h => ref_validate la lk A c V h hn hc hw hz
 have CD := Lib.hid (fun V (h : Sl V ra rc L) => ref_decode ra rc L V h hrc h8)
 rw [hX]
 generalize valE A c = ve at *
 clear hL hR hz h8 hX
 go_enter Try.func7, Try.ntmps7
 go_upto_region 1 with fail
 change Code.wp _ _ _ _ (((w.alloc (.cells (lgA la A.length lk c) 27)).alloc (.cells (lgA none 0 0 0) 27)).alloc (.cells (resA (zRes 0)) 40))
 generalize ((w.alloc (.cells (lgA la A.length lk c) 27)).alloc (.cells (lgA none 0 0 0) 27)).alloc (.cells (resA (zRes 0)) 40) = W at *
 obtain ⟨g3, hg3⟩ : ∃ g3, w.heap.size = g3 := ⟨_, rfl⟩
 obtain ⟨g6, hg6⟩ : ∃ g6, g3 + 1 = g6 := ⟨_, rfl⟩
 obtain ⟨g7, hg7⟩ : ∃ g7, g6 + 1 = g7 := ⟨_, rfl⟩
 have HB0 := Lib.hid hb0
 rw [show w.heap.size + 2 = g7 by omega] at hX7
 rw [show w.heap.size + 1 = g6 by omega] at hX6
 have HG : Hid (w.heap.size ≤ g6 ∧ w.heap.size ≤ g7 ∧ g7 ≠ g6 ∧ g3 ≠ g6 ∧ g3 ≠ g7 ∧ g6 < W.heap.size ∧ g7 < W.heap.size) := Lib.hid ⟨by omega, by omega, by omega, by omega, by omega, hX6.lt, hX7.lt⟩
 rw [hg3] at hX3
 simp only [hg3]
 simp only [hg6]
 simp only [hg7]
 have HX3 := Lib.hid hX3
 have HX6 := Lib.hid hX6
 have HX7 := Lib.hid hX7
 have CVW := CV W hA
 clear hb0 hX3 hX6 hX7 hA hg3 hg6 hg7 CV
 refine wl <| gzl rfl ⟨g3, 0, none⟩ (.agg (lgA la A.length lk c)) (load_lg HX3.out) <| gzc (.int .i64 ve) (fun w' => Below W.heap.size W w') (CVW) (fun W1 hW1 => ?_)
 simp only [pu]
 have HB1 := Lib.hid (HB0.out.trans (hW1.mono HB0.out.size))
 have HS1 : Hid (W.heap.size ≤ W1.heap.size) := Lib.hid hW1.size
 have HX3 := Lib.hid (HX3.out.below HX3.out.lt hW1)
 have HX6 := Lib.hid (HX6.out.below HX6.out.lt hW1)
 have HX7 := Lib.hid (HX7.out.below HX7.out.lt hW1)
 clear CVW hW1
 by_cases hv : ve = 0
 ·skip
  subst hv
  refine gzb (neq_e rfl 0 0 (decide_eq_true rfl)) <| wn ?_
  simp only [pu]
  have CDW := CD.out W1 (sl_below HRW.out HB1.out)
  obtain ⟨D, hD⟩ : ∃ D, decX L = D := ⟨_, rfl⟩
  rw [hD] at CDW H2 H3 H4 HFQ
  clear hD CD H1
  go_upto_region 3 with fail
  refine wl <| gz1 (.slice ra L.length rc) <| gze (fun v w' => ∃ a c, v = .tuple #[.agg (txA D.1 a c), .int .i64 D.2] ∧ RowT w' W1.heap.size (.slice a D.1.tr.length c) D.1.tr ∧ Below W1.heap.size W1 w') (CDW.mono fun e w' q => by obtain ⟨a, c, h1, h2⟩ := q; exact ⟨_, h1, a, c, rfl, h2⟩) (fun vv W2 hq => ?_)
  obtain ⟨ta, tk, rfl, hrt, hb2⟩ := hq
  obtain ⟨V3, hst3, hb3, hbx3⟩ := new_txv W2 D.1 ta tk
  simp only [pu]
  refine gz3 (.tuple #[.agg (txA D.1 ta tk), .int .i64 D.2]) (.agg (txA D.1 ta tk)) (.int .i64 D.2) ?_
  simp only [pu]
  refine run_to rfl (some 8) rfl (.pointer (some ⟨W2.heap.size, 0, none⟩)) (W2.alloc (.cells (txA zX none 0) 32)) (by kernel_rfl) ?_
  simp only [pu]
  refine gzs rfl (hst3) <| gz1 (.int .i64 D.2) <| wn ?_
  simp only [pu]
  have hb4 := hb2.trans (hb3.mono hb2.size)
  obtain ⟨g8, hg8⟩ : ∃ g8, W2.heap.size = g8 := ⟨_, rfl⟩
  have HG8 : Hid (g8 ≠ g6 ∧ g8 ≠ g7 ∧ W.heap.size ≤ g8) := Lib.hid (by have := HG.out.2.2.2.2.2; have := HS1.out; have := hb2.size; omega)
  rw [hg8] at hbx3 hst3 ⊢
  have HRT := Lib.hid (own_base (own_below hrt hb3) HS1.out)
  have HX3 := Lib.hid (HX3.out.below HX3.out.lt hb4)
  have HX6 := Lib.hid (HX6.out.below HX6.out.lt hb4)
  have HX7 := Lib.hid (HX7.out.below HX7.out.lt hb4)
  have HX8 := Lib.hid hbx3
  have HBV := Lib.hid (HB1.out.trans (hb4.mono HB1.out.size))
  have HSV : Hid (W.heap.size ≤ V3.heap.size) := Lib.hid (Nat.le_trans HS1.out hb4.size)
  clear CDW hst3 hb2 hb3 hb4 hg8 hbx3 hrt HB1
  by_cases hd : D.2 = 0
  ·skip
   go_upto_region 4 with fail
   refine wl <| gz1 (.int .i64 D.2) <| gzb (neq_e rfl D.2 0 (decide_eq_true hd)) <| wn ?_
   simp only [pu]
   have hfq := HFQ.out rfl hd
   have H3 := Lib.hid (H3.out rfl hd)
   have H4 := Lib.hid (H4.out rfl hd)
   obtain ⟨t, hdt⟩ : ∃ t, D.1 = t := ⟨_, rfl⟩
   rw [hdt] at hfq H3 H4 HRT HX8
   simp only [hdt]
   have HQ := Lib.hid hfq
   have HF0 := Lib.hid (fun h0 => fault_0 (size := L.length) hfq h0)
   have CF := Lib.hid (fun V (hl : Cs V la (acc A)) (ht : Cs V ta (tfc t.tr)) => ref_fault A c price L.length t la ta lk tk V hl hlk ht hfq)
   have CP := fun V => Mo.ref_prio t.fee t.gas V hfq.f hfq.gas
   generalize prioV t.fee t.gas = pr at *
   obtain ⟨fx, hfx⟩ : ∃ fx, faultX A price t L.length = fx := ⟨_, rfl⟩
   rw [hfx] at H3 H4 HF0 CF
   clear hfq hdt hd H2 HFQ hfx
   go_upto_region 6 with fail
   have h0 := KT.start V3 ⟨fx, t.snd, t.sq, t.gas, pr⟩
   refine wp_region_inv (fun listed act9 V => ∃ b0 b1 b2 b3 b4 b5 b6 b7 b8 b9 b10 b11 b12 b13 b14 b15 b16 b17 b18 b19 : Bool, ∃ x10 : Value, listed = #[b0, b1, b2, b3, b4, b5, b6, b7, b8, b9, b10, b11, b12, b13, b14, b15, b16, b17, b18, b19] ∧ act9 = { tmps := #[.agg (lgA la A.length lk c), .int .u64 price, .slice ra L.length rc, .pointer (some ⟨g3, 0, none⟩), undef, undef, .pointer (some ⟨g6, 0, none⟩), .pointer (some ⟨g7, 0, none⟩), .pointer (some ⟨g8, 0, none⟩), .int .i64 D.2, x10, undef, undef, .agg (lgA la A.length lk c), .int .i64 0, .bool false, undef, undef, .tuple #[.agg (txA t ta tk), .int .i64 D.2], .slice ra L.length rc, .tuple #[.agg (txA t ta tk), .int .i64 D.2], .agg (txA t ta tk), .int .i64 D.2, .int .i64 D.2, .bool false, undef, undef, undef, (cond b0 (.agg (lgA la A.length lk c)) undef), (cond b1 (.int .u64 price) undef), (cond b2 (.agg (txA t ta tk)) undef), (cond b3 (.slice ra L.length rc) undef), (cond b4 (.int .i64 L.length) undef), (cond b5 (.int .i64 fx) undef), (cond b6 (.pointer (some ⟨g8, 0, none⟩)) undef), (cond b7 (.string t.snd) undef), (cond b8 (.pointer (some ⟨g8, 1, none⟩)) undef), (cond b9 (.int .u64 t.sq) undef), (cond b10 (.pointer (some ⟨g8, 2, none⟩)) undef), (cond b11 (.int .u64 t.gas) undef), (cond b12 (.pointer (some ⟨g8, 3, none⟩)) undef), (cond b13 (.int .u64 t.fee) undef), (cond b14 (.pointer (some ⟨g8, 2, none⟩)) undef), (cond b15 (.int .u64 t.gas) undef), (cond b16 (.int .u64 pr) undef), (cond b17 (.agg (resA ⟨fx, t.snd, t.sq, t.gas, pr⟩)) undef), undef, undef, undef, undef, undef, undef, undef, undef, undef, undef, undef, undef, undef, undef, undef], defers := [] } ∧ KT V3 ⟨fx, t.snd, t.sq, t.gas, pr⟩ b18 b19 x10 V) (by kernel_rfl) (by kernel_rfl) ?_ ?_ ?_
   ·exact ⟨false, false, false, false, false, false, false, false, false, false, false, false, false, false, false, false, false, false, false, false, undef, rfl, rfl, h0⟩
   ·intro i9 listed act9 V hi9 hr hJ
    obtain ⟨b0, b1, b2, b3, b4, b5, b6, b7, b8, b9, b10, b11, b12, b13, b14, b15, b16, b17, b18, b19, x10, rfl, rfl, hF⟩ := hJ
    have hi2 : i9 < 20 := hi9
    have hi3 : i9 = 0 ∨ i9 = 1 ∨ i9 = 2 ∨ i9 = 3 ∨ i9 = 4 ∨ i9 = 5 ∨ i9 = 6 ∨ i9 = 7 ∨ i9 = 8 ∨ i9 = 9 ∨ i9 = 10 ∨ i9 = 11 ∨ i9 = 12 ∨ i9 = 13 ∨ i9 = 14 ∨ i9 = 15 ∨ i9 = 16 ∨ i9 = 17 ∨ i9 = 18 ∨ i9 = 19 := by omega
    rcases hi3 with rfl | rfl | rfl | rfl | rfl | rfl | rfl | rfl | rfl | rfl | rfl | rfl | rfl | rfl | rfl | rfl | rfl | rfl | rfl | rfl
    ·obtain rfl : b0 = false := ready_self hr
     refine st_load rfl (by kernel_rfl) (some 28) rfl 27 (.tmp 3) rfl ⟨g3, 0, none⟩ (.agg (lgA la A.length lk c)) (by kernel_rfl) (load_lg (HX3.out.below HX3.out.lt hF.bel)) ?_
     exact ⟨true, b1, b2, b3, b4, b5, b6, b7, b8, b9, b10, b11, b12, b13, b14, b15, b16, b17, b18, b19, x10, rfl, rfl, hF⟩
    ·obtain rfl : b1 = false := ready_self hr
     refine st_val rfl (by kernel_rfl) (some 29) rfl (.int .u64 price) V (by kernel_rfl) ?_
     exact ⟨b0, true, b2, b3, b4, b5, b6, b7, b8, b9, b10, b11, b12, b13, b14, b15, b16, b17, b18, b19, x10, rfl, rfl, hF⟩
    ·obtain rfl : b2 = false := ready_self hr
     refine st_load rfl (by kernel_rfl) (some 30) rfl 32 (.tmp 8) rfl ⟨g8, 0, none⟩ (.agg (txA t ta tk)) (by kernel_rfl) (load_txb (HX8.out.below HX8.out.lt hF.bel)) ?_
     exact ⟨b0, b1, true, b3, b4, b5, b6, b7, b8, b9, b10, b11, b12, b13, b14, b15, b16, b17, b18, b19, x10, rfl, rfl, hF⟩
    ·obtain rfl : b3 = false := ready_self hr
     refine st_val rfl (by kernel_rfl) (some 31) rfl (.slice ra L.length rc) V (by kernel_rfl) ?_
     exact ⟨b0, b1, b2, true, b4, b5, b6, b7, b8, b9, b10, b11, b12, b13, b14, b15, b16, b17, b18, b19, x10, rfl, rfl, hF⟩
    ·obtain rfl : b4 = false := ready_self hr
     obtain rfl : b3 = true := ready_dep hr 3 (by kernel_rfl)
     refine st_val rfl (by kernel_rfl) (some 32) rfl (.int .i64 L.length) V (by kernel_rfl) ?_
     exact ⟨b0, b1, b2, true, true, b5, b6, b7, b8, b9, b10, b11, b12, b13, b14, b15, b16, b17, b18, b19, x10, rfl, rfl, hF⟩
    ·obtain rfl : b5 = false := ready_self hr
     obtain rfl : b0 = true := ready_dep hr 0 (by kernel_rfl)
     obtain rfl : b1 = true := ready_dep hr 1 (by kernel_rfl)
     obtain rfl : b2 = true := ready_dep hr 2 (by kernel_rfl)
     obtain rfl : b4 = true := ready_dep hr 4 (by kernel_rfl)
     refine st_call rfl (by kernel_rfl) (some 33) rfl 18 #[.agg (lgA la A.length lk c), .int .u64 price, .agg (txA t ta tk), .int .i64 L.length] (by kernel_rfl) ((CF.out V (HLW.out.below (HBV.out.trans (hF.bel.mono HBV.out.size))) (by obtain ⟨a9, c9, e9, h9, -⟩ := own_cs (own_below HRT.out hF.bel); simp only [Value.slice.injEq, true_and] at e9; obtain ⟨rfl, rfl⟩ := e9; exact h9)).mono fun e w' z => ?_)
     obtain ⟨rfl, hb⟩ := z
     exact ⟨_, rfl, true, true, true, b3, true, true, b6, b7, b8, b9, b10, b11, b12, b13, b14, b15, b16, b17, b18, b19, x10, rfl, rfl, hF.more hb⟩
    ·obtain rfl : b6 = false := ready_self hr
     refine st_val rfl (by kernel_rfl) (some 34) rfl (.pointer (some ⟨g8, 0, none⟩)) V (by kernel_rfl) ?_
     exact ⟨b0, b1, b2, b3, b4, b5, true, b7, b8, b9, b10, b11, b12, b13, b14, b15, b16, b17, b18, b19, x10, rfl, rfl, hF⟩
    ·obtain rfl : b7 = false := ready_self hr
     obtain rfl : b6 = true := ready_dep hr 6 (by kernel_rfl)
     refine st_load rfl (by kernel_rfl) (some 35) rfl 9 (.tmp 34) rfl ⟨g8, 0, none⟩ (.string t.snd) (by kernel_rfl) ((HX8.out.below HX8.out.lt hF.bel).load (i := 0) rfl (by kernel_rfl)) ?_
     exact ⟨b0, b1, b2, b3, b4, b5, true, true, b8, b9, b10, b11, b12, b13, b14, b15, b16, b17, b18, b19, x10, rfl, rfl, hF⟩
    ·obtain rfl : b8 = false := ready_self hr
     refine st_val rfl (by kernel_rfl) (some 36) rfl (.pointer (some ⟨g8, 1, none⟩)) V (by kernel_rfl) ?_
     exact ⟨b0, b1, b2, b3, b4, b5, b6, b7, true, b9, b10, b11, b12, b13, b14, b15, b16, b17, b18, b19, x10, rfl, rfl, hF⟩
    ·obtain rfl : b9 = false := ready_self hr
     obtain rfl : b8 = true := ready_dep hr 8 (by kernel_rfl)
     refine st_load rfl (by kernel_rfl) (some 37) rfl 22 (.tmp 36) rfl ⟨g8, 1, none⟩ (.int .u64 t.sq) (by kernel_rfl) ((HX8.out.below HX8.out.lt hF.bel).load (i := 1) rfl (by kernel_rfl)) ?_
     exact ⟨b0, b1, b2, b3, b4, b5, b6, b7, true, true, b10, b11, b12, b13, b14, b15, b16, b17, b18, b19, x10, rfl, rfl, hF⟩
    ·obtain rfl : b10 = false := ready_self hr
     refine st_val rfl (by kernel_rfl) (some 38) rfl (.pointer (some ⟨g8, 2, none⟩)) V (by kernel_rfl) ?_
     exact ⟨b0, b1, b2, b3, b4, b5, b6, b7, b8, b9, true, b11, b12, b13, b14, b15, b16, b17, b18, b19, x10, rfl, rfl, hF⟩
    ·obtain rfl : b11 = false := ready_self hr
     obtain rfl : b10 = true := ready_dep hr 10 (by kernel_rfl)
     refine st_load rfl (by kernel_rfl) (some 39) rfl 22 (.tmp 38) rfl ⟨g8, 2, none⟩ (.int .u64 t.gas) (by kernel_rfl) ((HX8.out.below HX8.out.lt hF.bel).load (i := 2) rfl (by kernel_rfl)) ?_
     exact ⟨b0, b1, b2, b3, b4, b5, b6, b7, b8, b9, true, true, b12, b13, b14, b15, b16, b17, b18, b19, x10, rfl, rfl, hF⟩
    ·obtain rfl : b12 = false := ready_self hr
     refine st_val rfl (by kernel_rfl) (some 40) rfl (.pointer (some ⟨g8, 3, none⟩)) V (by kernel_rfl) ?_
     exact ⟨b0, b1, b2, b3, b4, b5, b6, b7, b8, b9, b10, b11, true, b13, b14, b15, b16, b17, b18, b19, x10, rfl, rfl, hF⟩
    ·obtain rfl : b13 = false := ready_self hr
     obtain rfl : b12 = true := ready_dep hr 12 (by kernel_rfl)
     refine st_load rfl (by kernel_rfl) (some 41) rfl 22 (.tmp 40) rfl ⟨g8, 3, none⟩ (.int .u64 t.fee) (by kernel_rfl) ((HX8.out.below HX8.out.lt hF.bel).load (i := 3) rfl (by kernel_rfl)) ?_
     exact ⟨b0, b1, b2, b3, b4, b5, b6, b7, b8, b9, b10, b11, true, true, b14, b15, b16, b17, b18, b19, x10, rfl, rfl, hF⟩
    ·obtain rfl : b14 = false := ready_self hr
     refine st_val rfl (by kernel_rfl) (some 42) rfl (.pointer (some ⟨g8, 2, none⟩)) V (by kernel_rfl) ?_
     exact ⟨b0, b1, b2, b3, b4, b5, b6, b7, b8, b9, b10, b11, b12, b13, true, b15, b16, b17, b18, b19, x10, rfl, rfl, hF⟩
    ·obtain rfl : b15 = false := ready_self hr
     obtain rfl : b14 = true := ready_dep hr 14 (by kernel_rfl)
     refine st_load rfl (by kernel_rfl) (some 43) rfl 22 (.tmp 42) rfl ⟨g8, 2, none⟩ (.int .u64 t.gas) (by kernel_rfl) ((HX8.out.below HX8.out.lt hF.bel).load (i := 2) rfl (by kernel_rfl)) ?_
     exact ⟨b0, b1, b2, b3, b4, b5, b6, b7, b8, b9, b10, b11, b12, b13, true, true, b16, b17, b18, b19, x10, rfl, rfl, hF⟩
    ·obtain rfl : b16 = false := ready_self hr
     obtain rfl : b13 = true := ready_dep hr 13 (by kernel_rfl)
     obtain rfl : b15 = true := ready_dep hr 15 (by kernel_rfl)
     refine st_call rfl (by kernel_rfl) (some 44) rfl 19 #[.int .u64 t.fee, .int .u64 t.gas] (by kernel_rfl) ((CP V).mono fun e w' z => ?_)
     obtain ⟨rfl, rfl⟩ := z
     exact ⟨_, rfl, b0, b1, b2, b3, b4, b5, b6, b7, b8, b9, b10, b11, b12, true, b14, true, true, b17, b18, b19, x10, rfl, rfl, hF⟩
    ·obtain rfl : b17 = false := ready_self hr
     obtain rfl : b5 = true := ready_dep hr 5 (by kernel_rfl)
     obtain rfl : b7 = true := ready_dep hr 7 (by kernel_rfl)
     obtain rfl : b9 = true := ready_dep hr 9 (by kernel_rfl)
     obtain rfl : b11 = true := ready_dep hr 11 (by kernel_rfl)
     obtain rfl : b16 = true := ready_dep hr 16 (by kernel_rfl)
     refine st_val rfl (by kernel_rfl) (some 45) rfl (.agg (resA ⟨fx, t.snd, t.sq, t.gas, pr⟩)) V (by kernel_rfl) ?_
     exact ⟨b0, b1, b2, b3, b4, true, b6, true, b8, true, b10, true, b12, b13, b14, b15, true, true, b18, b19, x10, rfl, rfl, hF⟩
    ·obtain rfl : b18 = false := ready_self hr
     refine st_val rfl (by kernel_rfl) (some 10) rfl (.pointer (some ⟨V.heap.size, 0, none⟩)) (V.alloc (.cells (resA (zRes 0)) 40)) (by kernel_rfl) ?_
     exact ⟨b0, b1, b2, b3, b4, b5, b6, b7, b8, b9, b10, b11, b12, b13, b14, b15, b16, b17, true, b19, _, rfl, rfl, hF.alloc⟩
    ·obtain rfl : b19 = false := ready_self hr
     obtain rfl : b17 = true := ready_dep hr 17 (by kernel_rfl)
     obtain rfl : b18 = true := ready_dep hr 18 (by kernel_rfl)
     obtain ⟨g9, V2, rfl, hst, hF2⟩ := hF.store
     refine st_storeA rfl (by kernel_rfl) rfl 40 (.tmp 10) (.tmp 45) rfl (.pointer (some ⟨g9, 0, none⟩)) (.agg (resA ⟨fx, t.snd, t.sq, t.gas, pr⟩)) (by kernel_rfl) (by kernel_rfl) _ hst ?_
     exact ⟨b0, b1, b2, b3, b4, b5, b6, b7, b8, b9, b10, b11, b12, b13, b14, b15, b16, true, true, true, _, rfl, rfl, hF2⟩
   ·intro act9 V hJ
    obtain ⟨b0, b1, b2, b3, b4, b5, b6, b7, b8, b9, b10, b11, b12, b13, b14, b15, b16, b17, b18, b19, x10, he, rfl, hF⟩ := hJ
    have he : (#[true, true, true, true, true, true, true, true, true, true, true, true, true, true, true, true, true, true, true, true] : Array Bool) = #[b0, b1, b2, b3, b4, b5, b6, b7, b8, b9, b10, b11, b12, b13, b14, b15, b16, b17, b18, b19] := he
    simp only [Array.mk.injEq, List.cons.injEq, and_true] at he
    obtain ⟨rfl, rfl, rfl, rfl, rfl, rfl, rfl, rfl, rfl, rfl, rfl, rfl, rfl, rfl, rfl, rfl, rfl, rfl, rfl, rfl⟩ := he
    simp only [cond_true]
    obtain ⟨g10, rfl, hg10, -, hbx⟩ := hF.box rfl
    have HX10 := Lib.hid (hbx rfl)
    have hbv := hF.bel
    have HB4 := Lib.hid (HBV.out.trans (hbv.mono HBV.out.size))
    have HX36 := Lib.hid (HX6.out.below HX6.out.lt hbv)
    have HX37 := Lib.hid (HX7.out.below HX7.out.lt hbv)
    have HG10 : Hid (g10 ≠ g6 ∧ g10 ≠ g7) := Lib.hid (by have := HG.out.2.2.2.2.2; have := HSV.out; omega)
    have HS4 : Hid (W.heap.size ≤ V.heap.size) := Lib.hid (Nat.le_trans HSV.out hbv.size)
    have HPZ : Hid (PZ g3 g8 g10 W.heap.size (lgA la A.length lk c) t ta tk ⟨fx, t.snd, t.sq, t.gas, pr⟩ V) := Lib.hid ⟨HX3.out.below HX3.out.lt hbv, HX8.out.below HX8.out.lt hbv, hbx rfl, own_below HRT.out hbv⟩
    clear hF hbx hbv hg10 HX3 HX6 HX7 HX8 HRT HBV h0
    by_cases hfx : ¬ fx = 0
    ·skip
     go_upto_region 7 with fail
     refine wl <| gz1 (.pointer (some ⟨g10, 0, none⟩)) <| gzl rfl ⟨g10, 0, none⟩ (.int .i64 fx) (HX10.out.load (i := 0) rfl (by kernel_rfl)) <| gzb (neq_e rfl fx 0 (decide_eq_false hfx)) <| wn ?_
     simp only [pu]
     obtain rfl := H3.out hfx
     go_upto_region 8 with fail
     have h0 : K8 w g6 g7 (PZ g3 g8 g10 W.heap.size (lgA la A.length lk c) t ta tk ⟨fx, t.snd, t.sq, t.gas, pr⟩) (lgA la A.length lk c) ⟨fx, t.snd, t.sq, t.gas, pr⟩ false false V.drew := K8.start HB4.out HPZ.out.drew HX36.out HX37.out
     generalize V = V4 at *
     refine wp_region_inv (fun listed act9 V => ∃ b0 b1 b2 b3 : Bool, listed = #[b0, b1, b2, b3] ∧ act9 = { tmps := #[.agg (lgA la A.length lk c), .int .u64 price, .slice ra L.length rc, .pointer (some ⟨g3, 0, none⟩), undef, undef, .pointer (some ⟨g6, 0, none⟩), .pointer (some ⟨g7, 0, none⟩), .pointer (some ⟨g8, 0, none⟩), .int .i64 D.2, .pointer (some ⟨g10, 0, none⟩), undef, undef, .agg (lgA la A.length lk c), .int .i64 0, .bool false, undef, undef, .tuple #[.agg (txA t ta tk), .int .i64 D.2], .slice ra L.length rc, .tuple #[.agg (txA t ta tk), .int .i64 D.2], .agg (txA t ta tk), .int .i64 D.2, .int .i64 D.2, .bool false, undef, undef, undef, .agg (lgA la A.length lk c), .int .u64 price, .agg (txA t ta tk), .slice ra L.length rc, .int .i64 L.length, .int .i64 fx, .pointer (some ⟨g8, 0, none⟩), .string t.snd, .pointer (some ⟨g8, 1, none⟩), .int .u64 t.sq, .pointer (some ⟨g8, 2, none⟩), .int .u64 t.gas, .pointer (some ⟨g8, 3, none⟩), .int .u64 t.fee, .pointer (some ⟨g8, 2, none⟩), .int .u64 t.gas, .int .u64 pr, .agg (resA ⟨fx, t.snd, t.sq, t.gas, pr⟩), .pointer (some ⟨g10, 0, none⟩), .int .i64 fx, .bool true, (cond b0 (.agg (lgA la A.length lk c)) undef), (cond b1 (.agg (resA ⟨fx, t.snd, t.sq, t.gas, pr⟩)) undef), undef, undef, undef, undef, undef, undef, undef, undef, undef, undef], defers := [] } ∧ K8 w g6 g7 (PZ g3 g8 g10 W.heap.size (lgA la A.length lk c) t ta tk ⟨fx, t.snd, t.sq, t.gas, pr⟩) (lgA la A.length lk c) ⟨fx, t.snd, t.sq, t.gas, pr⟩ b2 b3 V) (by kernel_rfl) (by kernel_rfl) ?_ ?_ ?_
     ·exact ⟨false, false, false, false, rfl, rfl, h0⟩
     ·intro i9 listed act9 V hi9 hr hJ
      obtain ⟨b0, b1, b2, b3, rfl, rfl, hF⟩ := hJ
      have hi2 : i9 < 4 := hi9
      have hi3 : i9 = 0 ∨ i9 = 1 ∨ i9 = 2 ∨ i9 = 3 := by omega
      rcases hi3 with rfl | rfl | rfl | rfl
      ·obtain rfl : b0 = false := ready_self hr
       refine st_load rfl (by kernel_rfl) (some 49) rfl 27 (.tmp 3) rfl ⟨g3, 0, none⟩ (.agg (lgA la A.length lk c)) (by kernel_rfl) (load_lg hF.p.x3) ?_
       exact ⟨true, b1, b2, b3, rfl, rfl, hF⟩
      ·obtain rfl : b1 = false := ready_self hr
       refine st_load rfl (by kernel_rfl) (some 50) rfl 40 (.tmp 10) rfl ⟨g10, 0, none⟩ (.agg (resA ⟨fx, t.snd, t.sq, t.gas, pr⟩)) (by kernel_rfl) (load_res hF.p.x10) ?_
       exact ⟨b0, true, b2, b3, rfl, rfl, hF⟩
      ·obtain rfl : b2 = false := ready_self hr
       obtain rfl : b0 = true := ready_dep hr 0 (by kernel_rfl)
       obtain ⟨V2, hst, hF2⟩ := hF.st6 (fun V9 hb => hF.p.but hb HG.out.2.2.2.1 HG8.out.1 HG10.out.1 HG.out.2.2.2.2.2.1) HG.out.1 HG.out.2.2.1
       refine st_storeA rfl (by kernel_rfl) rfl 27 (.tmp 6) (.tmp 49) rfl (.pointer (some ⟨g6, 0, none⟩)) (.agg (lgA la A.length lk c)) (by kernel_rfl) (by kernel_rfl) _ hst ?_
       exact ⟨true, b1, true, b3, rfl, rfl, hF2⟩
      ·obtain rfl : b3 = false := ready_self hr
       obtain rfl : b1 = true := ready_dep hr 1 (by kernel_rfl)
       obtain ⟨V2, hst, hF2⟩ := hF.st7 (fun V9 hb => hF.p.but hb HG.out.2.2.2.2.1 HG8.out.2.1 HG10.out.2 HG.out.2.2.2.2.2.2) HG.out.2.1 (fun e => HG.out.2.2.1 e.symm)
       refine st_storeA rfl (by kernel_rfl) rfl 40 (.tmp 7) (.tmp 50) rfl (.pointer (some ⟨g7, 0, none⟩)) (.agg (resA ⟨fx, t.snd, t.sq, t.gas, pr⟩)) (by kernel_rfl) (by kernel_rfl) _ hst ?_
       exact ⟨b0, true, b2, true, rfl, rfl, hF2⟩
     ·intro act9 V hJ
      obtain ⟨b0, b1, b2, b3, he, rfl, hF⟩ := hJ
      have he : (#[true, true, true, true] : Array Bool) = #[b0, b1, b2, b3] := he
      simp only [Array.mk.injEq, List.cons.injEq, and_true] at he
      obtain ⟨rfl, rfl, rfl, rfl⟩ := he
      simp only [cond_true]
      go_wp2_with fail
      exact bodyPost_ret (results_2c rfl (by kernel_rfl) (load_lg hF.x6) (by kernel_rfl) (load_res hF.x7)) rfl ⟨la, lk, rfl, HLW.out.below hF.bel, hlk, .inl ⟨rfl, rfl⟩, hF.bel⟩
    ·skip
     have hfx : fx = 0 := Decidable.of_not_not hfx
     go_upto_region 7 with fail
     refine wl <| gz1 (.pointer (some ⟨g10, 0, none⟩)) <| gzl rfl ⟨g10, 0, none⟩ (.int .i64 fx) (HX10.out.load (i := 0) rfl (by kernel_rfl)) <| gzb (neq_e rfl fx 0 (decide_eq_true hfx)) <| wn ?_
     simp only [pu]
     obtain rfl := H4.out hfx
     obtain ⟨hdq, hd256⟩ := HF0.out hfx
     have hcs4 : Cs V ta (tfc t.tr) := by obtain ⟨a9, c9, e9, h9, -⟩ := own_cs HPZ.out.row; simp only [Value.slice.injEq, true_and] at e9; obtain ⟨rfl, rfl⟩ := e9; exact h9
     have CC := ref_cost t ta tk V hcs4 (by have := hdq.m; omega) hdq.f hdq.a
     have hcb := hdq.cb
     have HDQ := Lib.hid hdq
     have HCD := Lib.hid (fun V (hl : Cs V la (acc A)) (ht : Cs V ta (tfc t.tr)) => ref_done A c t la ta lk tk V hl hlk ht hdq)
     rw [hcb] at CC
     clear hcs4 hdq hcb H3 H4 HF0 CF CP HQ
     go_upto_region 9 with fail
     refine wl <| gzl rfl ⟨g8, 0, none⟩ (.agg (txA t ta tk)) (load_txb HPZ.out.x8) <| gzc (.tuple #[.int .u64 (cosV t), .bool true]) (fun w' => Below V.heap.size V w') (CC) (fun V5 hV5 => ?_)
     simp only [pu]
     refine gz5 (.tuple #[.int .u64 (cosV t), .bool true]) (.int .u64 (cosV t)) (.bool true) (.int .u64 (cosV t)) (.bool true) <| wn ?_
     simp only [pu]
     have HPZ5 := Lib.hid (HPZ.out.more hV5)
     have h5 := HB4.out.trans (hV5.mono HB4.out.size)
     have HX66 := HX36.out.below HX36.out.lt hV5
     have HX77 := HX37.out.below HX37.out.lt hV5
     have HS5 : Hid (W.heap.size ≤ V5.heap.size) := Lib.hid (Nat.le_trans HS4.out hV5.size)
     clear CC hV5 HB4 HPZ HX36 HX37 HX10
     go_upto_region 10 with fail
     obtain ⟨DL, hDL⟩ : ∃ DL, doneL A t = DL := ⟨_, rfl⟩
     rw [hDL] at HCD
     have h0 : KS w g6 g7 W.heap.size (PZ g3 g8 g10 W.heap.size (lgA la A.length lk c) t ta tk ⟨fx, t.snd, t.sq, t.gas, pr⟩) DL (c + t.fee) ⟨fx, t.snd, t.sq, t.gas, pr⟩ false false false undef V5.drew := KS.start h5 HPZ5.out.drew HX66 HX77
     generalize V = V4 at *
     clear h5 HX66 HX77
     refine wp_region_inv (fun listed act9 V => ∃ b0 b1 b2 b3 b4 b5 b6 : Bool, ∃ x59 : Value, listed = #[b0, b1, b2, b3, b4, b5, b6] ∧ act9 = { tmps := #[.agg (lgA la A.length lk c), .int .u64 price, .slice ra L.length rc, .pointer (some ⟨g3, 0, none⟩), undef, undef, .pointer (some ⟨g6, 0, none⟩), .pointer (some ⟨g7, 0, none⟩), .pointer (some ⟨g8, 0, none⟩), .int .i64 D.2, .pointer (some ⟨g10, 0, none⟩), .int .u64 (cosV t), .bool true, .agg (lgA la A.length lk c), .int .i64 0, .bool false, undef, undef, .tuple #[.agg (txA t ta tk), .int .i64 D.2], .slice ra L.length rc, .tuple #[.agg (txA t ta tk), .int .i64 D.2], .agg (txA t ta tk), .int .i64 D.2, .int .i64 D.2, .bool false, undef, undef, undef, .agg (lgA la A.length lk c), .int .u64 price, .agg (txA t ta tk), .slice ra L.length rc, .int .i64 L.length, .int .i64 fx, .pointer (some ⟨g8, 0, none⟩), .string t.snd, .pointer (some ⟨g8, 1, none⟩), .int .u64 t.sq, .pointer (some ⟨g8, 2, none⟩), .int .u64 t.gas, .pointer (some ⟨g8, 3, none⟩), .int .u64 t.fee, .pointer (some ⟨g8, 2, none⟩), .int .u64 t.gas, .int .u64 pr, .agg (resA ⟨fx, t.snd, t.sq, t.gas, pr⟩), .pointer (some ⟨g10, 0, none⟩), .int .i64 fx, .bool false, undef, undef, .tuple #[.int .u64 (cosV t), .bool true], .agg (txA t ta tk), .tuple #[.int .u64 (cosV t), .bool true], .int .u64 (cosV t), .bool true, (cond b0 (.agg (lgA la A.length lk c)) undef), (cond b1 (.agg (txA t ta tk)) undef), (cond b2 (.int .u64 (cosV t)) undef), x59, (cond b4 (.agg (resA ⟨fx, t.snd, t.sq, t.gas, pr⟩)) undef)], defers := [] } ∧ KS w g6 g7 W.heap.size (PZ g3 g8 g10 W.heap.size (lgA la A.length lk c) t ta tk ⟨fx, t.snd, t.sq, t.gas, pr⟩) DL (c + t.fee) ⟨fx, t.snd, t.sq, t.gas, pr⟩ b3 b5 b6 x59 V) (by kernel_rfl) (by kernel_rfl) ?_ ?_ ?_
     ·exact ⟨false, false, false, false, false, false, false, undef, rfl, rfl, h0⟩
     ·intro i9 listed act9 V hi9 hr hJ
      obtain ⟨b0, b1, b2, b3, b4, b5, b6, x59, rfl, rfl, hF⟩ := hJ
      have hi2 : i9 < 7 := hi9
      have hi3 : i9 = 0 ∨ i9 = 1 ∨ i9 = 2 ∨ i9 = 3 ∨ i9 = 4 ∨ i9 = 5 ∨ i9 = 6 := by omega
      rcases hi3 with rfl | rfl | rfl | rfl | rfl | rfl | rfl
      ·obtain rfl : b0 = false := ready_self hr
       refine st_load rfl (by kernel_rfl) (some 56) rfl 27 (.tmp 3) rfl ⟨g3, 0, none⟩ (.agg (lgA la A.length lk c)) (by kernel_rfl) (load_lg hF.p.x3) ?_
       exact ⟨true, b1, b2, b3, b4, b5, b6, x59, rfl, rfl, hF⟩
      ·obtain rfl : b1 = false := ready_self hr
       refine st_load rfl (by kernel_rfl) (some 57) rfl 32 (.tmp 8) rfl ⟨g8, 0, none⟩ (.agg (txA t ta tk)) (by kernel_rfl) (load_txb hF.p.x8) ?_
       exact ⟨b0, true, b2, b3, b4, b5, b6, x59, rfl, rfl, hF⟩
      ·obtain rfl : b2 = false := ready_self hr
       refine st_val rfl (by kernel_rfl) (some 58) rfl (.int .u64 (cosV t)) V (by kernel_rfl) ?_
       exact ⟨b0, b1, true, b3, b4, b5, b6, x59, rfl, rfl, hF⟩
      ·obtain rfl : b3 = false := ready_self hr
       obtain rfl : b0 = true := ready_dep hr 0 (by kernel_rfl)
       obtain rfl : b1 = true := ready_dep hr 1 (by kernel_rfl)
       obtain rfl : b2 = true := ready_dep hr 2 (by kernel_rfl)
       obtain rfl : b5 = false := ff hF.o rfl
       refine st_call rfl (by kernel_rfl) (some 59) rfl 21 #[.agg (lgA la A.length lk c), .agg (txA t ta tk), .int .u64 (cosV t)] (by kernel_rfl) ((HCD.out V (HLW.out.below hF.bel) (by obtain ⟨a9, c9, e9, h9, -⟩ := own_cs hF.p.row; simp only [Value.slice.injEq, true_and] at e9; obtain ⟨rfl, rfl⟩ := e9; exact h9)).mono fun e w' z => ?_)
       obtain ⟨ad, k, rfl, hr, hb⟩ := z
       exact ⟨_, rfl, true, true, true, true, b4, false, b6, _, rfl, rfl, hF.call (Nat.le_of_lt (Nat.lt_of_le_of_lt HG8.out.2.2 hF.p.x8.lt)) (hF.p.more hb) hb hr⟩
      ·obtain rfl : b4 = false := ready_self hr
       refine st_load rfl (by kernel_rfl) (some 60) rfl 40 (.tmp 10) rfl ⟨g10, 0, none⟩ (.agg (resA ⟨fx, t.snd, t.sq, t.gas, pr⟩)) (by kernel_rfl) (load_res hF.p.x10) ?_
       exact ⟨b0, b1, b2, b3, true, b5, b6, x59, rfl, rfl, hF⟩
      ·obtain rfl : b5 = false := ready_self hr
       obtain rfl : b3 = true := ready_dep hr 3 (by kernel_rfl)
       obtain ⟨ad, k, V2, rfl, hst, hF2⟩ := hF.st6 (fun V9 hb => hF.p.but hb HG.out.2.2.2.1 HG8.out.1 HG10.out.1 HG.out.2.2.2.2.2.1) HG.out.1 HG.out.2.2.2.2.2.1 HG.out.2.2.1
       refine st_storeA rfl (by kernel_rfl) rfl 27 (.tmp 6) (.tmp 59) rfl (.pointer (some ⟨g6, 0, none⟩)) (.agg (lgA ad DL.length k (c + t.fee))) (by kernel_rfl) (by kernel_rfl) _ hst ?_
       exact ⟨b0, b1, b2, true, b4, true, b6, _, rfl, rfl, hF2⟩
      ·obtain rfl : b6 = false := ready_self hr
       obtain rfl : b4 = true := ready_dep hr 4 (by kernel_rfl)
       obtain ⟨V2, hst, hF2⟩ := hF.st7 (fun V9 hb => hF.p.but hb HG.out.2.2.2.2.1 HG8.out.2.1 HG10.out.2 HG.out.2.2.2.2.2.2) HG.out.2.1 HG.out.2.2.2.2.2.2 (fun e => HG.out.2.2.1 e.symm)
       refine st_storeA rfl (by kernel_rfl) rfl 40 (.tmp 7) (.tmp 60) rfl (.pointer (some ⟨g7, 0, none⟩)) (.agg (resA ⟨fx, t.snd, t.sq, t.gas, pr⟩)) (by kernel_rfl) (by kernel_rfl) _ hst ?_
       exact ⟨b0, b1, b2, b3, true, b5, true, x59, rfl, rfl, hF2⟩
     ·intro act9 V hJ
      obtain ⟨b0, b1, b2, b3, b4, b5, b6, x59, he, rfl, hF⟩ := hJ
      have he : (#[true, true, true, true, true, true, true] : Array Bool) = #[b0, b1, b2, b3, b4, b5, b6] := he
      simp only [Array.mk.injEq, List.cons.injEq, and_true] at he
      obtain ⟨rfl, rfl, rfl, rfl, rfl, rfl, rfl⟩ := he
      simp only [cond_true]
      obtain ⟨ad, k, rfl, hk, hrow⟩ := hF.row rfl
      obtain ⟨a2, k2, e2, hx6⟩ := hF.y6 rfl
      simp only [Value.agg.injEq, Array.mk.injEq, List.cons.injEq, Value.slice.injEq, true_and, and_true] at e2
      obtain ⟨rfl, rfl⟩ := e2
      obtain ⟨a9, c9, e9, h9, -⟩ := hrow.cs
      simp only [Value.slice.injEq, true_and] at e9
      obtain ⟨rfl, rfl⟩ := e9
      subst hDL
      subst hfx
      go_wp2_with fail
      exact bodyPost_ret (results_2c rfl (by kernel_rfl) (load_lg hx6) (by kernel_rfl) (load_res hF.x7)) rfl ⟨ad, k, rfl, h9, hk, .inr fun x hx => Nat.le_trans HB0.out.size (row_ge hrow x hx), hF.bel⟩
  ·skip
   go_upto_region 4 with fail
   refine wl <| gz1 (.int .i64 D.2) <| gzb (neq_e rfl D.2 0 (decide_eq_false hd)) <| wn ?_
   simp only [pu]
   obtain ⟨hsA, hYA⟩ := store_lg (a' := la) (n' := A.length) (k' := lk) (c' := c) HX6.out
   have hYB := HX7.out.but (But.setRow (g := g6) V3 (lgA la A.length lk c)) HG.out.2.2.1
   obtain ⟨hsB, hYC⟩ := store_res (q := zRes D.2) hYB
   have hYD := hYA.but (But.setRow (g := g7) (V3.setRow g6 (lgA la A.length lk c)) (resA (zRes D.2))) (fun e => HG.out.2.2.1 e.symm)
   have hbZ := belowRow (belowRow HBV.out HG.out.1 (lgA la A.length lk c)) HG.out.2.1 (resA (zRes D.2))
   have hLZ := HLW.out.below hbZ
   obtain rfl := H2.out rfl hd
   have HE : Hid (TxO w la A ((A, c), zRes D.2) (.returned (.tuple #[.agg (lgA la A.length lk c), .agg (resA (zRes D.2))])) ((V3.setRow g6 (lgA la A.length lk c)).setRow g7 (resA (zRes D.2)))) := Lib.hid ⟨la, lk, rfl, hLZ, hlk, .inl ⟨rfl, rfl⟩, hbZ⟩
   generalize (V3.setRow g6 (lgA la A.length lk c)).setRow g7 (resA (zRes D.2)) = VZ at *
   generalize V3.setRow g6 (lgA la A.length lk c) = VY at *
   clear hYA hYB hbZ hLZ
   go_upto_region 5 with fail
   refine wl <| gzl rfl ⟨g3, 0, none⟩ (.agg (lgA la A.length lk c)) (load_lg HX3.out) <| gz2 (.int .i64 D.2) (.agg (resA (zRes D.2))) <| gzs rfl (hsA) <| gzs rfl (hsB) <| wn ?_
   simp only [pu]
   go_wp2_with fail
   exact bodyPost_ret (results_2c rfl (by kernel_rfl) (load_lg hYD) (by kernel_rfl) (load_res hYC)) rfl HE.out
 ·skip
  refine gzb (neq_e rfl ve 0 (decide_eq_false hv)) <| wn ?_
  simp only [pu]
  have HBV := Lib.hid HB1.out
  obtain ⟨hsA, hYA⟩ := store_lg (a' := la) (n' := A.length) (k' := lk) (c' := c) HX6.out
  have hYB := HX7.out.but (But.setRow (g := g6) W1 (lgA la A.length lk c)) HG.out.2.2.1
  obtain ⟨hsB, hYC⟩ := store_res (q := zRes 1) hYB
  have hYD := hYA.but (But.setRow (g := g7) (W1.setRow g6 (lgA la A.length lk c)) (resA (zRes 1))) (fun e => HG.out.2.2.1 e.symm)
  have hbZ := belowRow (belowRow HBV.out HG.out.1 (lgA la A.length lk c)) HG.out.2.1 (resA (zRes 1))
  have hLZ := HLW.out.below hbZ
  obtain rfl := H1.out hv
  have HE : Hid (TxO w la A ((A, c), zRes 1) (.returned (.tuple #[.agg (lgA la A.length lk c), .agg (resA (zRes 1))])) ((W1.setRow g6 (lgA la A.length lk c)).setRow g7 (resA (zRes 1)))) := Lib.hid ⟨la, lk, rfl, hLZ, hlk, .inl ⟨rfl, rfl⟩, hbZ⟩
  generalize (W1.setRow g6 (lgA la A.length lk c)).setRow g7 (resA (zRes 1)) = VZ at *
  generalize W1.setRow g6 (lgA la A.length lk c) = VY at *
  clear hYA hYB hbZ hLZ
  go_upto_region 2 with fail
  refine wl <| gzl rfl ⟨g3, 0, none⟩ (.agg (lgA la A.length lk c)) (load_lg HX3.out) <| gz1 (.agg (resA (zRes 1))) <| gzs rfl (hsA) <| gzs rfl (hsB) <| wn ?_
  simp only [pu]
  go_wp2_with fail
  exact bodyPost_ret (results_2c rfl (by kernel_rfl) (load_lg hYD) (by kernel_rfl) (load_res hYC)) rfl HE.out
end Go.Proofs.Ytglglhcnofbagaa.Lg
namespace Go.Proofs.Ytglglhcnofbagaa.Lg
set_option maxRecDepth 100000
open Mo (usedV prioV mulB mulV)
open Go.RowKit
set_option linter.unusedSimpArgs false
set_option linter.unusedVariables false

/-- Bytes in new memory: they read, and stay when g is written. -/
structure Rw (w : World) (B : Nat) (a : Option Addr) (c : Nat) (R : List Int) : Prop where
 sl : Sl w a c R
 le : R.length ≤ c
 b : ∀ y, y ∈ R → W8 y
 n : R.length ≤ 4096
 o : R ≠ [] → ∀ x, a = some x → B ≤ x.block
theorem Rw.below {w w' : World} {B : Nat} {a : Option Addr} {c : Nat} {R : List Int} (h : Rw w B a c R) (hb : Below w.heap.size w w') : Rw w' B a c R := ⟨sl_below h.sl hb, h.le, h.b, h.n, h.o⟩
theorem Rw.base {w : World} {B B2 : Nat} {a : Option Addr} {c : Nat} {R : List Int} (h : Rw w B2 a c R) (hB : B ≤ B2) : Rw w B a c R := ⟨h.sl, h.le, h.b, h.n, fun e x hx => Nat.le_trans hB (h.o e x hx)⟩
theorem Rw.but {w w' : World} {B g : Nat} {a : Option Addr} {c : Nat} {R : List Int} (h : Rw w B a c R) (hb : But g w w') (hg : g < B) : Rw w' B a c R := ⟨by
 rcases h.sl with h1 | ⟨x, rfl, hx⟩
 ·exact .inl h1
 ·refine .inr ⟨x, rfl, fun k hk => ?_⟩
  obtain ⟨b, off, rfl, hc⟩ := hx k hk
  have hne : R ≠ [] := fun e => by rw [e] at hk; simp at hk
  have hB := h.o hne _ rfl
  have hlt := World.block_lt_of_cell? w (⟨b, off + k, none⟩ : Addr) hc
  refine ⟨b, off, rfl, ?_⟩
  rw [← hc]
  unfold World.cell?
  rw [hb.2 b hlt (by have : B ≤ b := hB; omega)], h.le, h.b, h.n, h.o⟩
theorem Rw.of {w : World} {B : Nat} {v : Value} {R : List Int} (h : Own w B v R) (hb : ∀ y, y ∈ R → W8 y) (hn : R.length ≤ 4096) : ∃ a c, v = .slice a R.length c ∧ Rw w B a c R := by
 obtain ⟨a, c, rfl, h1, h2⟩ := h.sl
 refine ⟨a, c, rfl, h1, h2, hb, hn, fun hne x hx => ?_⟩
 rcases h.2 with ⟨e, -⟩ | ⟨g, cap, cur, e, hB, -⟩
 ·simp only [Value.slice.injEq] at e; rw [e.1] at hx; cases hx
 ·simp only [Value.slice.injEq] at e; rw [e.1] at hx; cases hx; exact hB
theorem Rw.take {w : World} {B : Nat} {a : Option Addr} {c : Nat} {R : List Int} (h : Rw w B a c R) (k : Nat) : Rw w B a c (R.take k) :=
 ⟨sl_take h.sl k, by rw [List.length_take]; have := h.le; omega, fun y hy => h.b y (List.mem_of_mem_take hy), by rw [List.length_take]; have := h.n; omega, fun hne => h.o fun e => hne (by rw [e, List.take_nil])⟩
end Go.Proofs.Ytglglhcnofbagaa.Lg
namespace Go.Proofs.Ytglglhcnofbagaa.Lg
set_option maxRecDepth 100000
open Mo (usedV prioV mulB mulV)
open Go.RowKit
set_option linter.unusedSimpArgs false
set_option linter.unusedVariables false

theorem valT_names : ∀ {M : List Tf}, valT M = 0 → ∀ x, x ∈ M → isName (nums x.1) = true
 | [], _, x, hx => by cases hx
 | y :: r, h, x, hx => by
  unfold valT at h
  split at h
  ·omega
  ·rename_i h1
   split at h
   ·omega
   ·rcases List.mem_cons.1 hx with rfl | hx
    ·simpa using h1
    ·exact valT_names h x hx
theorem valX_names {t : Txd} (h : valX t = 0) : ∀ x, x ∈ t.tr → isName (nums x.1) = true := by
 unfold valX at h
 split at h
 ·omega
 split at h
 ·omega
 split at h
 ·omega
 split at h
 ·omega
 exact valT_names h
/-- A ledger that is valid, and all in it words. -/
structure LdQ (A : List Ac) (c : Int) : Prop where
 v : valE A c = 0
 w : AcW A
 cw : W64 c
theorem LdQ.n {A : List Ac} {c : Int} (h : LdQ A c) : A.length ≤ 256 := (valE_ok h.v).1
theorem isn_20 {s : ByteArray} (h : isName (nums s) = true) : s.size ≤ 20 := by
 unfold isName at h
 rw [nums_len] at h
 simp only [Bool.and_eq_true, decide_eq_true_eq] at h
 omega
theorem LdQ.q {A : List Ac} {c : Int} (h : LdQ A c) : ∀ x, x ∈ A → AcQ x := fun x hx => by
 obtain ⟨i, hi, rfl⟩ := List.getElem_of_mem hx
 have h1 := (valE_ok h.v).2.2.1 i hi
 have h2 := h.w i hi
 rw [aca_get hi] at h1 h2
 exact ⟨⟨h1, isn_20 h1⟩, h2⟩
theorem LdQ.z {A : List Ac} {c : Int} (h : LdQ A c) : ∀ x, x ∈ A → x.1.size ≤ 140737488355328 := fun x hx => Nat.le_trans (h.q x hx).1.2 (by decide)
theorem LdQ.nil : LdQ [] 0 := ⟨by decide, acw_nil, w64_0⟩
end Go.Proofs.Ytglglhcnofbagaa.Lg
