/-
  ApplyLimits returns true for every input: a ledger never gets more than MaxAccounts accounts, however many transfers go to new names; the arguments read afterwards as before.
  Conditions: none beyond the statement's own: the bound on a word's bytes is the reading's own reach.
-/
import Derived.Test.YtglglhcnofbagaaJ24
import Derived.Test.YtglglhcnofbagaaJ21
import Derived.WalkKit
import Derived.Test.YtglglhcnofbagaaRows
import Derived.ProofKit
import Derived.OpenShut
import Derived.ShutString
import Derived.ChangeOld
import Derived.ChangeMaps5
import Derived.SizedLaws
import Derived.Below
namespace Go.Proofs.Ytglglhcnofbagaa.Lg
attribute [local irreducible] wpList wpQuiet
set_option maxRecDepth 100000
open Mo (usedV prioV mulB mulV)
open Go.RowKit
set_option linter.unusedSimpArgs false
set_option linter.unusedVariables false

theorem infoU8 : (Try.prog.info? 5).map (fun i => (i.zero, i.size, i.bytes)) = some (some (.int .u8 0), 1, 1) := by kernel_rfl
theorem build_b2 (x y : Int) (V : World) : (Instr.buildSlice 29 2 #[(0, .int .u8 x), (1, .int .u8 y)]).run Try.prog V = .ok (.slice (some ⟨V.heap.size, 0, none⟩) 2 2) (V.alloc (.cells #[.int .u8 x, .int .u8 y] 5)) := by
 obtain ⟨i0, hi, hz0, hz1, hz2⟩ := info_parts infoU8
 refine run_buildSlice V 29 5 2 _ _ i0 _ Try.underlying29 hi hz0 (by rw [hz1]; omega) (by rw [hz1]; omega) ?_
 rw [hz1]
 kernel_rfl
section
variable {ρ : Operand → Value} {o : Oper} {x y : Operand}
theorem quo_26 (ho : o.op = .binOp .quo 3 x y 3) (a : Nat) (ha : a ≤ 100000) (hx : ρ x = .int .i64 a) (hy : ρ y = .int .i64 26) (w : World) : (execOp ρ o).run Try.prog w = .ok (.value (.int .i64 (a / 26 : Nat))) w := by
 have e : (a : Int).tdiv 26 = ((a / 26 : Nat) : Int) := by rw [Int.tdiv_eq_ediv_of_nonneg (by omega)]; omega
 have hw : IntKind.i64.wrap ((a / 26 : Nat) : Int) = ((a / 26 : Nat) : Int) := by rw [IntKind.wrap_i64]; omega
 have hw2 : IntKind.i64.wrap ((a : Int) / 26) = (a : Int) / 26 := by rw [IntKind.wrap_i64]; omega
 unfold execOp
 simp only [ho, hx, hy]
 go_simp
theorem conv_i89 (ho : o.op = .convert 3 5 x) (a : Nat) (h : a ≤ 255) (hx : ρ x = .int .i64 a) (w : World) : (execOp ρ o).run Try.prog w = .ok (.value (.int .u8 a)) w := by
 have hw : IntKind.u8.wrap (a : Int) = a := by rw [IntKind.wrap_u8]; omega
 unfold execOp
 simp only [ho, hx]
 go_simp
theorem conv_bs (ho : o.op = .convert 29 9 x) {a : Option Addr} {c : Nat} {L : List Int} {w : World} (h : Sl w a c L) {s : ByteArray} (hs : strOfNums L = s) (hx : ρ x = .slice a L.length c) : (execOp ρ o).run Try.prog w = .ok (.value (.string s)) w := by
 subst hs
 have e := conv_sl h
 unfold execOp
 simp only [ho, hx, Sem.run_bind, e]
 rfl
theorem eql_res (ho : o.op = .binOp .eql 40 x y 40) (r : Res) (hx : ρ x = .agg (resA r)) (hy : ρ y = .agg (resA r)) (w : World) : (execOp ρ o).run Try.prog w = .ok (.value (.bool true)) w := by
 unfold execOp
 simp only [ho, hx, hy]
 go_simp
end
theorem str2_size (x y : Int) : (strOfNums [x, y]).size = 2 := by
 show (strOfNums [x, y]).data.size = 2
 rw [← Array.length_toList, strOfNums_data]
 rfl
theorem sl_two {w : World} {g : Nat} {x y : Int} (h : Bx w g #[.int .u8 x, .int .u8 y] 5) : Sl w (some ⟨g, 0, none⟩) 2 [x, y] := .inr ⟨_, rfl, fun k hk => ⟨g, 0, rfl, by
 rw [Nat.zero_add, cell_of_row w g _ _ _ (0, 0) h]
 simp at hk
 rcases (show k = 0 ∨ k = 1 by omega) with rfl | rfl <;> rfl⟩⟩
/-- The accounts that are made. -/
structure AQ (A : List Ac) : Prop where
 w : AcW A
 z : ∀ x, x ∈ A → x.1.size ≤ 20
theorem AQ.add {A : List Ac} {s : ByteArray} (h : AQ A) (hs : s.size ≤ 20) : AQ (A ++ [(s, 0, 0)]) :=
 ⟨acw_of fun x hx => (List.mem_append.1 hx).elim (acw_mem h.w x) fun h1 => by rw [List.mem_singleton] at h1; rw [h1]; exact ⟨w64_0, w64_0⟩, fun x hx => (List.mem_append.1 hx).elim (h.z x) fun h1 => by rw [List.mem_singleton] at h1; rw [h1]; exact hs⟩
theorem AQ.z2 {A : List Ac} (h : AQ A) : ∀ x, x ∈ A → x.1.size ≤ 140737488355328 := fun x hx => Nat.le_trans (h.z x hx) (by decide)
def sA : ByteArray := ⟨#[97]⟩
theorem AQ.one : AQ [(sA, 10000, 0)] := ⟨acw_of fun x hx => by rw [List.mem_singleton] at hx; rw [hx]; exact ⟨⟨by decide, by decide⟩, w64_0⟩, fun x hx => by rw [List.mem_singleton] at hx; rw [hx]; decide⟩
theorem own_one (x : Ac) (w : World) : RowA (w.alloc (.cells (acA x) 24)) w.heap.size (.slice (some ⟨w.heap.size, 0, none⟩) 1 1) [x] :=
 ⟨rfl, .inr ⟨w.heap.size, 1, acA x, rfl, Nat.le_refl _, heap_alloc_last w _, Nat.le_refl _, by simp [maxLen], rfl, rfl⟩⟩
theorem row_lt2 {w : World} {B : Nat} {v : Value} {A : List Ac} (h : RowA w B v A) : ∀ q, v.ownBlock = some q → q < w.heap.size := fun q hq => (row_lt h q hq).2
theorem cs_butn {w w' : World} {g : Nat} {a : Option Addr} {cs : List Value} (h : Cs w a cs) (hb : But g w w') (hn : cs ≠ [] → ∀ x, a = some x → x.block ≠ g) : Cs w' a cs := by
 cases cs with
 | nil => exact Cs.nil _ _
 | cons v r => exact h.but hb (hn (by simp))
theorem cs_old {w : World} {a : Option Addr} {cs : List Value} (h : Cs w a cs) (hne : cs ≠ []) : ∀ x, a = some x → x.block < w.heap.size := fun x hx => by
 obtain ⟨b, off, e, hb, -⟩ := h 0 (cs[0]'(List.length_pos_iff.2 hne)) (List.getElem?_eq_getElem _)
 rw [hx] at e
 cases e
 exact hb
theorem cs_low {w w' : World} {B : Nat} {a : Option Addr} {cs : List Value} (h : Cs w a cs) (hb : Below B w w') (hn : cs ≠ [] → ∀ x, a = some x → x.block < B) : Cs w' a cs := fun j v hj => by
 obtain ⟨b, off, e, hlt, hc⟩ := h j v hj
 refine ⟨b, off, e, Nat.lt_of_lt_of_le hlt hb.size, ?_⟩
 rw [← hc]
 unfold World.cell?
 rw [hb.block b (hn (fun q => by rw [q] at hj; simp at hj) _ e)]
theorem tx_256 {A : List Ac} {c p : Int} {R : List Int} (hn : A.length ≤ 256) (hw : AcW A) (hc : W64 c) (hp : W64 p) (h8 : ∀ y, y ∈ R → W8 y) : (txX A c p R).1.1.length ≤ 256 := by
 rcases tx_seq (A := A) (c := c) (price := p) (L := R) with ⟨-, h1⟩ | ⟨-, h1, hv, hd, hf, -⟩
 ·rw [h1]; exact hn
 ·have hq := fa_q h8 hv hw hc hp hd
  obtain ⟨d1, d2⟩ := fault_0 hq hf
  rw [h1]; exact d2
/-- What the first loop keeps: the ledger's box, its row. -/
structure LiA (w : World) (g5 : Nat) (A : List Ac) (ad : Option Addr) (k : Nat) (V : World) : Prop where
 bel : Below w.heap.size w V
 bx : Bx V g5 (lgA ad A.length k 0) 27
 row : RowA V w.heap.size (.slice ad A.length k) A
 q : AQ A
 ne : ∀ q, (Value.slice ad A.length k).ownBlock = some q → q ≠ g5
/-- The transaction that is made. -/
def tM (M : List Tf) : Txd := ⟨sA, 0, 500, 500, mtS, M⟩
def TfQ (M : List Tf) : Prop := ∀ y, y ∈ M → NmQ y.1 ∧ 0 < y.2 ∧ W64 y.2
theorem tM_q {M : List Tf} (h : TfQ M) : GQ (tM M) := ⟨(show NmQ sA from ⟨by decide +kernel, by decide⟩), w64_0, ⟨(show (150 : Int) ≤ 500 by decide), (show (500 : Int) ≤ 1000 by decide)⟩, (show W64 500 from ⟨by decide, by decide⟩), (show MmQ mtS from ⟨by decide +kernel, by decide⟩), h⟩
theorem tM_enc {M : List Tf} (h : TfQ M) (h1 : 1 ≤ M.length) (h2 : M.length ≤ 16) : encX (tM M) = (form (tM M), 0) := by
 have hv := (tM_q h).val h1 h2
 have hb := (tM_q h).b
 obtain ⟨-, h3, -⟩ := val_ok hv hb.sq hb.gas hb.fee hb.am
 have h4 := (form_len (tM M)).1
 unfold encX
 rw [if_neg (by rw [hv]; decide), if_neg (by omega)]
theorem tM_b {M : List Tf} (h : TfQ M) (h1 : 1 ≤ M.length) (h2 : M.length ≤ 16) : ∀ y, y ∈ form (tM M) → W8 y := by
 have hv := (tM_q h).val h1 h2
 have hb := (tM_q h).b
 exact msg_bytes (val_ok hv hb.sq hb.gas hb.fee hb.am).1.vf
structure LiT (w : World) (g5 g7 B7 : Nat) (A : List Ac) (ad : Option Addr) (k : Nat) (M : List Tf) (a : Option Addr) (c : Nat) (V : World) : Prop where
 bel : Below w.heap.size w V
 bx5 : Bx V g5 (lgA ad A.length k 0) 27
 cs : Cs V ad (acc A)
 bx7 : Bx V g7 (txA (tM M) a c) 32
 row : RowT V B7 (.slice a M.length c) M
 q : TfQ M
theorem LiT.below {w V V2 : World} {g5 g7 B7 : Nat} {A : List Ac} {ad : Option Addr} {k : Nat} {M : List Tf} {a : Option Addr} {c : Nat} (h : LiT w g5 g7 B7 A ad k M a c V) (hb : Below V.heap.size V V2) : LiT w g5 g7 B7 A ad k M a c V2 := ⟨h.bel.trans (hb.mono h.bel.size), h.bx5.below h.bx5.lt hb, h.cs.below hb, h.bx7.below h.bx7.lt hb, own_below h.row hb, h.q⟩
def fourS : List ByteArray := [⟨#[120]⟩, ⟨#[121]⟩, ⟨#[122]⟩, ⟨#[120]⟩]
theorem build_four (V : World) : (Instr.buildSlice 33 4 #[(0, .string ⟨#[120]⟩), (1, .string ⟨#[121]⟩), (2, .string ⟨#[122]⟩), (3, .string ⟨#[120]⟩)]).run Try.prog V = .ok (.slice (some ⟨V.heap.size, 0, none⟩) 4 4) (V.alloc (.cells (strs fourS).toArray 9)) := by
 obtain ⟨i0, hi, hz0, hz1, hz2⟩ := info_parts infoSt
 refine run_buildSlice V 33 9 4 _ (strs fourS).toArray i0 _ Try.underlying33 hi hz0 (by rw [hz1]; omega) (by rw [hz1]; omega) ?_
 rw [hz1]
 kernel_rfl
theorem four_ok (k : Nat) (h : k < 4) : NmQ (fourS.getD k mtS) := by
 rcases (show k = 0 ∨ k = 1 ∨ k = 2 ∨ k = 3 by omega) with rfl | rfl | rfl | rfl <;> exact ⟨by decide +kernel, by decide⟩
/-- A region that reads (R), builds names (B), takes one (I, Y), builds an element (E), appends (P), stores (S): five worlds. -/
structure KR6 (bR bB bI bY bE bP bS : Bool) (W0 W1 W2 W3 W4 V : World) : Prop where
 o1 : bI = true → bB = true
 o2 : bY = true → bI = true
 o3 : bE = true → bY = true
 o4 : bP = true → bE = true
 o5 : bP = true → bR = true
 o6 : bS = true → bP = true
 is : V = cond bS W4 (cond bP W3 (cond bE W2 (cond bB W1 W0)))
section
variable {bR bB bI bY bE bP bS : Bool} {W0 W1 W2 W3 W4 V : World}
theorem KR6.start : KR6 false false false false false false false W0 W1 W2 W3 W4 W0 := ⟨(fun e => nomatch e), (fun e => nomatch e), (fun e => nomatch e), (fun e => nomatch e), (fun e => nomatch e), (fun e => nomatch e), rfl⟩
theorem KR6.r0 (h : KR6 false bB bI bY bE bP bS W0 W1 W2 W3 W4 V) : bP = false ∧ bS = false ∧ (V = W0 ∨ V = W1 ∨ V = W2) := by
 obtain rfl := ff h.o5 rfl
 obtain rfl := ff h.o6 rfl
 refine ⟨rfl, rfl, ?_⟩
 have := h.is
 cases bE <;> cases bB <;> simp at this <;> simp [this]
theorem KR6.r1 (h : KR6 false bB bI bY bE false false W0 W1 W2 W3 W4 V) : KR6 true bB bI bY bE false false W0 W1 W2 W3 W4 V := ⟨h.o1, h.o2, h.o3, h.o4, fun _ => rfl, h.o6, h.is⟩
theorem KR6.b0 (h : KR6 bR false bI bY bE bP bS W0 W1 W2 W3 W4 V) : bI = false ∧ bY = false ∧ bE = false ∧ bP = false ∧ bS = false ∧ V = W0 := by
 obtain rfl := ff h.o1 rfl
 obtain rfl := ff h.o2 rfl
 obtain rfl := ff h.o3 rfl
 obtain rfl := ff h.o4 rfl
 obtain rfl := ff h.o6 rfl
 exact ⟨rfl, rfl, rfl, rfl, rfl, h.is⟩
theorem KR6.b1 (h : KR6 bR false false false false false false W0 W1 W2 W3 W4 V) : KR6 bR true false false false false false W0 W1 W2 W3 W4 W1 := ⟨fun _ => rfl, h.o2, h.o3, h.o4, h.o5, h.o6, rfl⟩
theorem KR6.i0 (h : KR6 bR bB false bY bE bP bS W0 W1 W2 W3 W4 V) : bY = false ∧ bE = false ∧ bP = false ∧ bS = false := by
 obtain rfl := ff h.o2 rfl
 obtain rfl := ff h.o3 rfl
 obtain rfl := ff h.o4 rfl
 obtain rfl := ff h.o6 rfl
 exact ⟨rfl, rfl, rfl, rfl⟩
theorem KR6.i1 (h : KR6 bR true false false false false false W0 W1 W2 W3 W4 V) : KR6 bR true true false false false false W0 W1 W2 W3 W4 V := ⟨fun _ => rfl, fun _ => rfl, h.o3, h.o4, h.o5, h.o6, h.is⟩
theorem KR6.y0 (h : KR6 bR bB true false bE bP bS W0 W1 W2 W3 W4 V) : bB = true ∧ bE = false ∧ bP = false ∧ bS = false ∧ V = W1 := by
 obtain rfl := h.o1 rfl
 obtain rfl := ff h.o3 rfl
 obtain rfl := ff h.o4 rfl
 obtain rfl := ff h.o6 rfl
 exact ⟨rfl, rfl, rfl, rfl, h.is⟩
theorem KR6.y1 (h : KR6 bR true true false false false false W0 W1 W2 W3 W4 V) : KR6 bR true true true false false false W0 W1 W2 W3 W4 V := ⟨h.o1, fun _ => rfl, fun _ => rfl, h.o4, h.o5, h.o6, h.is⟩
theorem KR6.e0 (h : KR6 bR bB bI true false bP bS W0 W1 W2 W3 W4 V) : bI = true ∧ bB = true ∧ bP = false ∧ bS = false ∧ V = W1 := by
 obtain rfl := h.o2 rfl
 obtain rfl := h.o1 rfl
 obtain rfl := ff h.o4 rfl
 obtain rfl := ff h.o6 rfl
 exact ⟨rfl, rfl, rfl, rfl, h.is⟩
theorem KR6.e1 (h : KR6 bR true true true false false false W0 W1 W2 W3 W4 V) : KR6 bR true true true true false false W0 W1 W2 W3 W4 W2 := ⟨h.o1, h.o2, fun _ => rfl, fun _ => rfl, h.o5, h.o6, rfl⟩
theorem KR6.p0 (h : KR6 true bB bI bY true false bS W0 W1 W2 W3 W4 V) : bS = false ∧ V = W2 := by
 obtain rfl := ff h.o6 rfl
 exact ⟨rfl, h.is⟩
theorem KR6.p1 (h : KR6 true bB bI bY true false false W0 W1 W2 W3 W4 V) : KR6 true bB bI bY true true false W0 W1 W2 W3 W4 W3 := ⟨h.o1, h.o2, h.o3, fun _ => rfl, fun _ => rfl, (fun e => nomatch e), rfl⟩
theorem KR6.s0 (h : KR6 bR bB bI bY bE true false W0 W1 W2 W3 W4 V) : V = W3 := h.is
theorem KR6.s1 (h : KR6 bR bB bI bY bE true false W0 W1 W2 W3 W4 V) : KR6 bR bB bI bY bE true true W0 W1 W2 W3 W4 W4 := ⟨h.o1, h.o2, h.o3, h.o4, h.o5, fun _ => rfl, rfl⟩
end
set_option maxRecDepth 100000 in
set_option maxHeartbeats 8000000 in
theorem limits_core (x0 x1 : Int) (w : World) :
  Calls Try.prog 3 #[.int .i64 x0, .int .i64 x1] w fun e w' => e = .returned (.bool true) ∧ Below w.heap.size w w' := by
 have HK := Lib.hid (fun (V : World) (h : Below w.heap.size w V) => (known_true q_tx V).mono fun e w' (q : e = .returned (.bool true) ∧ Below V.heap.size V w') => (⟨q.1, h.trans (q.2.mono h.size)⟩ : e = .returned (.bool true) ∧ Below w.heap.size w w'))
 have CP := mk_place x0 3 w (by decide) (by decide)
 have hpr := pl_range x0 3 (by decide)
 obtain ⟨q0, hq⟩ : ∃ q : Nat, pl x0 3 = q := ⟨(pl x0 3).toNat, by omega⟩
 rw [hq] at hpr
 have HQ3 : Hid (q0 < 3) := Lib.hid (by omega)
 have HPQ := Lib.hid hq
 clear hq hpr CP
 go_enter Try.func3, Try.ntmps3
 go_upto_region 1 with fail
 have hb1 : Below w.heap.size w (w.alloc (.cells (acA (sA, 10000, 0)) 24)) := (Below.refl _ w).alloc (Nat.le_refl _) _
 have hr1 := own_one (sA, 10000, 0) w
 have hbt := build_ac (sA, 10000, 0) w
 obtain ⟨W1, hW1⟩ : ∃ W1, w.alloc (.cells (acA (sA, 10000, 0)) 24) = W1 := ⟨_, rfl⟩
 have hlt1 : w.heap.size < W1.heap.size := by rw [← hW1]; simp
 rw [hW1] at hb1 hr1 hbt
 obtain ⟨V2, hst, hb2, hbx⟩ := new_lg W1 (some ⟨w.heap.size, 0, none⟩) 1 1 0
 have HL2 : Hid (LiA w W1.heap.size [(sA, 10000, 0)] (some ⟨w.heap.size, 0, none⟩) 1 V2) := Lib.hid ⟨hb1.trans (hb2.mono hb1.size), hbx, own_below hr1 hb2, AQ.one, fun q hq => by have := row_lt2 hr1 q hq; omega⟩
 have HG5 : Hid (w.heap.size < W1.heap.size) := Lib.hid hlt1
 refine wl <| gz1 (.agg (acA (sA, 10000, 0))) ?_
 simp only [pu]
 refine gw_build (by kernel_rfl) (some 16) rfl 25 1 #[(0, .tmp 15)] rfl #[(0, .agg (acA (sA, 10000, 0)))] (by kernel_rfl) (.slice (some ⟨w.heap.size, 0, none⟩) 1 1) _ hbt ?_
 simp only [pu]
 refine gz1 (.agg (lgA (some ⟨w.heap.size, 0, none⟩) 1 1 0)) ?_
 simp only [pu]
 refine run_to rfl (some 5) rfl (.pointer (some ⟨W1.heap.size, 0, none⟩)) (W1.alloc (.cells (lgA none 0 0 0) 27)) (by kernel_rfl) ?_
 simp only [pu]
 refine gzs rfl (hst) <| wn ?_
 obtain ⟨g5, hg5⟩ : ∃ g, W1.heap.size = g := ⟨_, rfl⟩
 rw [hg5] at HL2 HG5 ⊢
 have CP := mk_place x0 3 V2 (by decide) (by decide)
 rw [HPQ.out] at CP
 obtain ⟨i0, hi0⟩ : ∃ i0 : Nat, (254 : Int) - q0 = i0 := ⟨254 - q0, by have := HQ3.out; omega⟩
 have HI0 : Hid ((254 : Int) - q0 = i0 ∧ i0 ≤ 254) := Lib.hid ⟨hi0, by omega⟩
 clear hb1 hr1 hbt hW1 hlt1 hst hb2 hbx hg5 hi0
 go_upto_region 2 with fail
 refine wl <| gz1 (.int .i64 x0) <| gzc (.int .i64 q0) (fun w' => V2 = w') (CP) (fun V9 hV9 => ?_)
 subst hV9
 simp only [pu]
 refine gzv (.int .i64 i0) (by rw [← HI0.out.1]; exact sub_i rfl 254 q0 (by have := HQ3.out; omega) (by kernel_rfl) (by kernel_rfl) _) <| gz1 (.int .i64 i0) <| wn ?_
 simp only [pu]
 clear CP
 go_wp2_with fail
 go_loopg [6] i0 (fun gg s6 wx => ∃ (i : Nat) (A : List Ac) (ad : Option Addr) (k : Nat), s6 = .int .i64 i ∧ A.length + i ≤ 255 ∧ Hid (LiA w g5 A ad k wx) ∧ i = gg)
 case atStart => exact ⟨i0, _, _, _, rfl, by have := HI0.out; simp only [List.length_cons, List.length_nil]; omega, HL2, rfl⟩
 case round =>
  clear HL2
  obtain ⟨i, A, ad, k, rfl, hi, HL, hg⟩ := hrel
  have HG := Lib.hid hg
  clear hg
  by_cases hpos : 0 < i
  ·skip
   obtain ⟨j, hj⟩ : ∃ j : Nat, (255 : Int) - i = j := ⟨255 - i, by omega⟩
   have HJ : Hid ((255 : Int) - i = j ∧ j ≤ 254) := Lib.hid ⟨hj, by omega⟩
   clear hj
   have hbb := build_b2 (97 + j / 26 : Nat) (97 + j % 26 : Nat) wr
   have hb1 : Below wr.heap.size wr (wr.alloc (.cells #[.int .u8 (97 + j / 26 : Nat), .int .u8 (97 + j % 26 : Nat)] 5)) := (Below.refl _ wr).alloc (Nat.le_refl _) _
   have hx1 : Bx (wr.alloc (.cells #[.int .u8 (97 + j / 26 : Nat), .int .u8 (97 + j % 26 : Nat)] 5)) wr.heap.size #[.int .u8 (97 + j / 26 : Nat), .int .u8 (97 + j % 26 : Nat)] 5 := heap_alloc_last wr _
   have hs2 := str2_size (97 + j / 26 : Nat) (97 + j % 26 : Nat)
   generalize wr.alloc (.cells #[.int .u8 (97 + j / 26 : Nat), .int .u8 (97 + j % 26 : Nat)] 5) = W1 at *
   have hsl := sl_two hx1
   obtain ⟨s2, hss⟩ : ∃ s2, strOfNums [((97 + j / 26 : Nat) : Int), ((97 + j % 26 : Nat) : Int)] = s2 := ⟨_, rfl⟩
   rw [hss] at hs2
   have HS2 := Lib.hid hss
   obtain ⟨g1, hg1⟩ : ∃ g1, wr.heap.size = g1 := ⟨_, rfl⟩
   rw [hg1] at hbb hsl
   have HSL := Lib.hid hsl
   have hra1 := own_below HL.out.row hb1
   obtain ⟨s3, hs3⟩ : ∃ s3, (⟨#[117]⟩ : ByteArray) ++ s2 = s3 := ⟨_, rfl⟩
   have hz3 : s3.size = 3 := by rw [← hs3, app_size, hs2]; rfl
   have HS3 := Lib.hid hs3
   have hbu := build_ac (s3, 0, 0) W1
   have hb2 : Below W1.heap.size W1 (W1.alloc (.cells (acA (s3, 0, 0)) 24)) := (Below.refl _ W1).alloc (Nat.le_refl _) _
   have hc2 : Cs (W1.alloc (.cells (acA (s3, 0, 0)) 24)) (some ⟨W1.heap.size, 0, none⟩) (acc [(s3, 0, 0)]) := Cs.block (t := 24) (fr := (0, 0)) (cs := acl (s3, 0, 0)) (heap_alloc_last W1 (.cells (acA (s3, 0, 0)) 24))
   have hbw2 := hb1.trans (hb2.mono hb1.size)
   have hBw := HL.out.bel.trans (hbw2.mono HL.out.bel.size)
   obtain ⟨a3, c3, V3, hap, hr3, hb3, hgb, hat⟩ := app_ac (own_below hra1 hb2) hBw.size (some ⟨W1.heap.size, 0, none⟩) 1 [(s3, 0, 0)] hc2 (by simp only [List.length_cons, List.length_nil]; omega)
   have hX2 := HL.out.bx.below HL.out.bx.lt hbw2
   have h5lt : g5 < (W1.alloc (.cells (acA (s3, 0, 0)) 24)).heap.size := hX2.lt
   have hX3 : Bx V3 g5 (lgA ad A.length k 0) 27 := (hgb.block g5 hX2.lt (fun e => HL.out.ne g5 e.symm rfl)).trans hX2
   simp only [List.length_cons, List.length_nil, Nat.zero_add] at hap hr3 hat
   generalize W1.alloc (.cells (acA (s3, 0, 0)) 24) = W2 at *
   obtain ⟨g2, hg2⟩ : ∃ g2, W1.heap.size = g2 := ⟨_, rfl⟩
   rw [hg2] at hbu hap
   have hbV3 := hBw.trans hb3
   obtain ⟨V4, hst4, hX4, hb4, hbt4⟩ := st_cell (i := 0) (ty := 25) (v := .slice a3 (A.length + 1) c3) (cs' := lgA a3 (A.length + 1) c3 0) hX3 hbV3 (Nat.le_of_lt HG5.out) (by show 0 < 2; decide) rfl (by kernel_rfl) rfl
   have hne3 : ∀ q, (Value.slice a3 (A.length + 1) c3).ownBlock = some q → q ≠ g5 := fun q hq => by
    rcases hat with h9 | h9
    ·rw [h9] at hq; exact HL.out.ne q hq
    ·rw [h9] at hq; cases hq; omega
   have hr4 := row_keep hr3 hne3 hbt4
   have hlen : (A ++ [(s3, 0, 0)]).length = A.length + 1 := by simp
   have HL4 : Hid (LiA w g5 (A ++ [(s3, 0, 0)]) a3 c3 V4) := Lib.hid ⟨hb4, by rw [hlen]; exact hX4, by rw [hlen]; exact hr4, HL.out.q.add (by omega), by rw [hlen]; exact hne3⟩
   have HIB : Hid ((A ++ [(s3, 0, 0)]).length + (i - 1) ≤ 255 ∧ 0 < i ∧ i ≤ 255) := Lib.hid ⟨by rw [hlen]; omega, hpos, by omega⟩
   have HXL := Lib.hid HL.out.bx
   obtain ⟨m1, hm1⟩ : ∃ m, A.length + 1 = m := ⟨_, rfl⟩
   rw [hm1] at hap hst4
   clear hb1 hx1 hs2 hsl hss hg1 hra1 hs3 hz3 hb2 hc2 hbw2 hBw hr3 hb3 hgb hat hX2 h5lt hX3 hg2 hbV3 hX4 hb4 hbt4 hne3 hr4 hlen hm1
   go_upto_region 3 with fail
   refine wl <| gz1 (.int .i64 i) <| gzb (gtr_n rfl (i) (0) dT) <| wn ?_
   simp only [pu]
   go_upto_region 5 with fail
   refine wl <| gz1 (.pointer (some ⟨g5, 0, none⟩)) <| gzl rfl ⟨g5, 0, none⟩ (.slice ad A.length k) (HXL.out.load (i := 0) rfl (by kernel_rfl)) <| gz1 (.int .i64 i) <|
    gzv (.int .i64 j) (by rw [← HJ.out.1]; exact sub_i rfl 255 i (by have := HIB.out; omega) (by kernel_rfl) (by kernel_rfl) _) <| gzw (.int .i64 (j / 26 : Nat)) (quo_26 rfl j (by have := HJ.out; omega)) <|
    gzw (.int .i64 (97 + j / 26 : Nat)) (add_nat rfl 97 (j / 26) (by have := HJ.out; omega)) <| gzv (.int .u8 (97 + j / 26 : Nat)) (conv_i89 rfl (97 + j / 26) (by have := HJ.out; omega) (by kernel_rfl) _) <| gz1 (.int .i64 i) <|
    gzv (.int .i64 j) (by rw [← HJ.out.1]; exact sub_i rfl 255 i (by have := HIB.out; omega) (by kernel_rfl) (by kernel_rfl) _) <| gzw (.int .i64 (j % 26 : Nat)) (rem_nat rfl j 26 (by decide)) <|
    gzw (.int .i64 (97 + j % 26 : Nat)) (add_nat rfl 97 (j % 26) (by have := HJ.out; omega)) <| gzv (.int .u8 (97 + j % 26 : Nat)) (conv_i89 rfl (97 + j % 26) (by omega) (by kernel_rfl) _) ?_
   simp only [pu]
   refine gw_build (by kernel_rfl) (some 37) rfl 29 2 #[(0, .tmp 31), (1, .tmp 36)] rfl #[(0, .int .u8 (97 + j / 26 : Nat)), (1, .int .u8 (97 + j % 26 : Nat))] (by kernel_rfl) (.slice (some ⟨g1, 0, none⟩) 2 2) _ hbb ?_
   simp only [pu]
   refine gzv (.string s2) (conv_bs rfl HSL.out HS2.out (by kernel_rfl)) <| gzv (.string s3) (by rw [← HS3.out]; exact add_s rfl ⟨#[117]⟩ s2 (by have := str2_size (97 + j / 26 : Nat) (97 + j % 26 : Nat); rw [HS2.out] at this; rw [this]; decide) (by kernel_rfl) (by kernel_rfl) _) <|
    gz1 (.agg (acA (s3, 0, 0))) ?_
   simp only [pu]
   refine gw_build (by kernel_rfl) (some 41) rfl 25 1 #[(0, .tmp 40)] rfl #[(0, .agg (acA (s3, 0, 0)))] (by kernel_rfl) (.slice (some ⟨g2, 0, none⟩) 1 1) _ hbu ?_
   simp only [pu]
   refine append_step rfl (some 42) rfl 25 rfl (.tmp 26) (.tmp 41) 25 rfl (.slice ad A.length k) (.slice (some ⟨g2, 0, none⟩) 1 1) (.slice a3 m1 c3) V3 (by kernel_rfl) (by kernel_rfl) hap ?_
   simp only [pu]
   refine gz1 (.pointer (some ⟨g5, 0, none⟩)) <| gzs rfl (hst4) <| wn ?_
   simp only [pu]
   clear hbb hbu hap hst4
   go_upto_region 4 with fail
   refine wl <| gz1 (.int .i64 i) <| gzv (.int .i64 (i - 1 : Nat)) (by rw [show ((i - 1 : Nat) : Int) = (i : Int) - 1 by have := HIB.out; omega]; exact sub_i rfl i 1 (by have := HIB.out; omega) (by kernel_rfl) (by kernel_rfl) _) <| gz1 (.int .i64 (i - 1 : Nat)) <| wn ?_
   simp only [pu]
   go_wp2_with fail
   go_roundg (i - 1)
   case measure => have := HG.out; have := HIB.out; omega
   case rel => exact ⟨i - 1, _, a3, c3, rfl, HIB.out.1, HL4, rfl⟩
  ·skip
   obtain ⟨a5, k5, e5, hca, hka⟩ := HL.out.row.cs
   simp only [Value.slice.injEq, true_and] at e5
   obtain ⟨rfl, rfl⟩ := e5
   have HAL : Hid (A.length ≤ 255 ∧ A.length ≤ k) := Lib.hid ⟨by omega, hka⟩
   have HAQ := Lib.hid HL.out.q
   obtain ⟨V2, hst, hb2, hbx⟩ := new_txv wr (tM []) none 0
   obtain ⟨g7, hg7⟩ : ∃ g, wr.heap.size = g := ⟨_, rfl⟩
   have HG7 : Hid (w.heap.size ≤ g7 ∧ g5 < g7 ∧ g7 < V2.heap.size) := Lib.hid (by have := HL.out.bel.size; have := HL.out.bx.lt; have := hbx.lt; omega)
   have HLA : Hid (acc A ≠ [] → ∀ x, ad = some x → x.block < g7) := Lib.hid fun h x hx => by rw [← hg7]; exact cs_old hca h x hx
   rw [hg7] at hbx
   have HL2 : Hid (LiT w g5 g7 (g7 + 1) A ad k [] none 0 V2) := Lib.hid ⟨HL.out.bel.trans (hb2.mono HL.out.bel.size), HL.out.bx.below HL.out.bx.lt hb2, hca.below hb2, hbx, RowT.nil _ _, fun y hy => nomatch hy⟩
   have HGG := Lib.hid hg7
   have CP := mk_place x1 5 V2 (by decide) (by decide)
   have hpr := pl_range x1 5 (by decide)
   obtain ⟨v8, hpv⟩ : ∃ v : Nat, pl x1 5 = v := ⟨(pl x1 5).toNat, by omega⟩
   rw [hpv] at CP hpr
   have HV8 : Hid (v8 < 5) := Lib.hid (by omega)
   clear hca hka hb2 hbx hg7 hpv hpr
   go_upto_region 3 with fail
   refine wl <| gz1 (.int .i64 i) <| gzb (gtr_n rfl (i) (0) dF) <| wn ?_
   simp only [pu]
   go_upto_region 6 with fail
   refine wl <| gz1 (.agg (txA (tM []) none 0)) ?_
   simp only [pu]
   refine run_to rfl (some 7) rfl (.pointer (some ⟨wr.heap.size, 0, none⟩)) (wr.alloc (.cells (txA zX none 0) 32)) (by kernel_rfl) ?_
   simp only [pu]
   refine gzs rfl (hst) <| wn ?_
   rw [HGG.out]
   clear hst HGG HL HG hi
   go_upto_region 7 with fail
   refine wl <| gz1 (.int .i64 x1) <| gzc (.int .i64 v8) (fun w' => V2 = w') (CP) (fun V9 hV9 => ?_)
   subst hV9
   simp only [pu]
   refine gz1 (.int .i64 v8) <| wn ?_
   simp only [pu]
   clear CP
   go_wp2_with fail
   go_loopg [8] (v8 + 1) (fun gg s8 wx => ∃ (i : Int) (M : List Tf) (a : Option Addr) (c : Nat), s8 = .int .i64 i ∧ -1 ≤ i ∧ (M.length : Int) + i = v8 ∧ Hid (LiT w g5 g7 (g7 + 1) A ad k M a c wx) ∧ (i + 1).toNat = gg)
   case atStart => exact ⟨v8, [], none, 0, rfl, by omega, by simp, HL2, by omega⟩
   case round =>
    clear HL2
    obtain ⟨i9, M, at7, ct7, rfl, hi9, hml, HT, hg⟩ := hrel
    have HG := Lib.hid hg
    clear hg
    by_cases hpos : 0 ≤ i9
    ·skip
     obtain ⟨n9, hn9⟩ : ∃ n9 : Nat, i9 = n9 := ⟨i9.toNat, by omega⟩
     subst hn9
     have HN9 : Hid (n9 < 5 ∧ M.length + n9 = v8) := Lib.hid (by have := HV8.out; omega)
     obtain ⟨W0, hW0⟩ : ∃ W0, wr.drew = W0 := ⟨_, rfl⟩
     have HW0 := Lib.hid hW0
     have hT0 := HT.out.below (Below.refl _ wr).drew
     rw [hW0] at hT0
     have hbF := build_four W0
     have hb01 : Below W0.heap.size W0 (W0.alloc (.cells (strs fourS).toArray 9)) := (Below.refl _ W0).alloc (Nat.le_refl _) _
     have hxF : Bx (W0.alloc (.cells (strs fourS).toArray 9)) W0.heap.size (strs fourS).toArray 9 := heap_alloc_last W0 _
     generalize W0.alloc (.cells (strs fourS).toArray 9) = W1 at *
     obtain ⟨gF, hgF⟩ : ∃ g, W0.heap.size = g := ⟨_, rfl⟩
     rw [hgF] at hbF hxF
     have hrl : n9 % 4 < 4 := Nat.mod_lt _ (by decide)
     have hls := load_str hxF (k := n9 % 4) (by show n9 % 4 < 4; exact hrl)
     have hnm := four_ok (n9 % 4) hrl
     generalize fourS.getD (n9 % 4) mtS = sN at *
     have hT1 := hT0.below hb01
     have hb12 : Below W1.heap.size W1 (W1.alloc (.cells (tfA (sN, 1)) 35)) := (Below.refl _ W1).alloc (Nat.le_refl _) _
     have hbE := build_tf (sN, 1) W1
     have hT2 := hT1.below hb12
     obtain ⟨a9, c9, W3, hap, hrow3, hb13⟩ := grow_tf (own_base hT1.row (Nat.le_refl _)) (by have := hT1.bx7.lt; omega) (sN, 1) (by have := HN9.out; have := HV8.out; omega)
     generalize W1.alloc (.cells (tfA (sN, 1)) 35) = W2 at *
     obtain ⟨gE, hgE⟩ : ∃ g, W1.heap.size = g := ⟨_, rfl⟩
     rw [hgE] at hbE hap
     have hml1 : (M ++ [(sN, 1)]).length = M.length + 1 := by simp
     obtain ⟨m9, hm9⟩ : ∃ m, (M ++ [(sN, 1)]).length = m := ⟨_, rfl⟩
     rw [hm9] at hap hrow3
     have hX3 := hT1.bx7.below (Nat.lt_succ_self _) hb13
     obtain ⟨W4, hsS, hX4, hb4, hbt4⟩ := st_cell (i := 5) (ty := 30) (v := .slice a9 m9 c9) (cs' := #[.string sA, .int .u64 0, .int .u64 500, .int .u64 500, .string mtS, .slice a9 m9 c9]) hX3 (hT1.bel.trans (hb13.mono (by have := HG7.out; omega))) HG7.out.1 (by show 5 < 6; decide) rfl (by kernel_rfl) rfl
     have hr4 : RowT W4 (g7 + 1) (.slice a9 m9 c9) (M ++ [(sN, 1)]) := own_but hrow3 hbt4 (Nat.lt_succ_self _)
     have h5lt : g5 < g7 + 1 := by have := HG7.out; omega
     have HT4 : Hid (LiT w g5 g7 (g7 + 1) A ad k (M ++ [(sN, 1)]) a9 c9 W4) := Lib.hid ⟨hb4, (hT1.bx5.below h5lt hb13).but hbt4 (by have := HG7.out; omega), cs_butn (cs_low hT1.cs hb13 (fun hn x hx => by have := HLA.out hn x hx; omega)) hbt4 (fun hn x hx => by have := HLA.out hn x hx; omega), by unfold tM txA; rw [hm9]; exact hX4, by rw [hm9]; exact hr4, fun y hy => (List.mem_append.1 hy).elim (hT1.q y) fun h9 => by rw [List.mem_singleton] at h9; rw [h9]; exact ⟨hnm, (show (0 : Int) < 1 by decide), (show W64 1 from ⟨by decide, by decide⟩)⟩⟩
     have HML : Hid ((((M ++ [(sN, 1)]).length : Nat) : Int) + ((n9 : Int) - 1) = v8) := Lib.hid (by rw [hml1]; have := HN9.out; omega)
     have h0 : KR6 false false false false false false false W0 W1 W2 W3 W4 wr.drew := by rw [HW0.out]; exact KR6.start
     generalize wr = wq at *
     clear hW0 hb01 hxF hgF hb12 hrow3 hb13 hgE hml1 hm9 hX3 hX4 hb4 hbt4 hr4 h5lt hnm
     go_upto_region 8 with fail
     refine wl <| gz1 (.int .i64 n9) <| gzb (geq_n rfl (n9 : Nat) 0 dT) <| wn ?_
     simp only [pu]
     go_upto_region 10 with fail
     have h0 := (⟨h0, fun e => nomatch e⟩ : KR6 false false false false false false false W0 W1 W2 W3 W4 wq.drew ∧ (false = true → false = true))
     refine wp_region_inv (fun listed act9 V => ∃ b0 b1 b2 b3 b4 b5 b6 b7 b8 b9 b10 b11 : Bool, listed = #[b0, b1, b2, b3, b4, b5, b6, b7, b8, b9, b10, b11] ∧ act9 = { tmps := #[.int .i64 x0, .int .i64 x1, undef, undef, .bool false, .pointer (some ⟨g5, 0, none⟩), .int .i64 i, .pointer (some ⟨g7, 0, none⟩), .int .i64 n9, undef, undef, undef, undef, undef, undef, .agg (acA (sA, 10000, 0)), .slice (some ⟨w.heap.size, 0, none⟩) 1 1, .agg (lgA (some ⟨w.heap.size, 0, none⟩) 1 1 0), .int .i64 x0, .int .i64 q0, .int .i64 i0, .int .i64 i, .bool false, u23, u24, u25, u26, u27, u28, u29, u30, u31, u32, u33, u34, u35, u36, u37, u38, u39, u40, u41, u42, u43, .agg (txA (tM []) none 0), .int .i64 x1, .int .i64 v8, .int .i64 n9, .bool true, u49, u50, (cond b0 (.pointer (some ⟨g7, 5, none⟩)) (u51)), (cond b1 (.slice at7 M.length ct7) (u52)), (cond b2 (.slice (some ⟨gF, 0, none⟩) 4 4) (u53)), (cond b3 (.int .i64 n9) (u54)), (cond b4 (.int .i64 (n9 % 4 : Nat)) (u55)), (cond b5 (.pointer (some ⟨gF, 0 + n9 % 4, none⟩)) (u56)), (cond b6 (.string sN) (u57)), (cond b7 (.agg (tfA (sN, 1))) (u58)), (cond b8 (.slice (some ⟨gE, 0, none⟩) 1 1) (u59)), (cond b9 (.slice a9 m9 c9) (u60)), (cond b10 (.pointer (some ⟨g7, 5, none⟩)) (u61)), undef, undef, undef, undef, undef, undef, undef, undef, undef, undef, undef, undef, undef, undef, undef, undef, undef, undef, undef, undef, undef, undef, undef, undef, undef, undef, undef, undef, undef, undef, undef, undef, undef, undef, undef, undef, undef, undef], defers := [] } ∧ (KR6 b1 b2 b5 b6 b8 b9 b11 W0 W1 W2 W3 W4 V ∧ (b7 = true → b6 = true))) (by kernel_rfl) (by kernel_rfl) ?_ ?_ ?_
     ·exact ⟨false, false, false, false, false, false, false, false, false, false, false, false, rfl, rfl, h0⟩
     ·intro i9 listed act9 V hi9 hr hJ
      obtain ⟨b0, b1, b2, b3, b4, b5, b6, b7, b8, b9, b10, b11, rfl, rfl, hF⟩ := hJ
      have hi2 : i9 < 12 := hi9
      have hi3 : i9 = 0 ∨ i9 = 1 ∨ i9 = 2 ∨ i9 = 3 ∨ i9 = 4 ∨ i9 = 5 ∨ i9 = 6 ∨ i9 = 7 ∨ i9 = 8 ∨ i9 = 9 ∨ i9 = 10 ∨ i9 = 11 := by omega
      rcases hi3 with rfl | rfl | rfl | rfl | rfl | rfl | rfl | rfl | rfl | rfl | rfl | rfl
      ·obtain rfl : b0 = false := ready_self hr
       refine st_val rfl (by kernel_rfl) (some 51) rfl (.pointer (some ⟨g7, 5, none⟩)) V (by kernel_rfl) ?_
       exact ⟨true, b1, b2, b3, b4, b5, b6, b7, b8, b9, b10, b11, rfl, rfl, hF⟩
      ·obtain rfl : b1 = false := ready_self hr
       obtain rfl : b0 = true := ready_dep hr 0 (by kernel_rfl)
       obtain ⟨rfl, rfl, hV0⟩ := hF.1.r0
       refine st_load rfl (by kernel_rfl) (some 52) rfl 30 (.tmp 51) rfl ⟨g7, 5, none⟩ (.slice at7 M.length ct7) (by kernel_rfl) (by rcases hV0 with h9 | h9 | h9 <;> rw [h9]; exact hT0.bx7.load (i := 5) rfl (by kernel_rfl); exact hT1.bx7.load (i := 5) rfl (by kernel_rfl); exact hT2.bx7.load (i := 5) rfl (by kernel_rfl)) ?_
       exact ⟨true, true, b2, b3, b4, b5, b6, b7, b8, false, b10, false, rfl, rfl, hF.1.r1, hF.2⟩
      ·obtain rfl : b2 = false := ready_self hr
       obtain ⟨rfl, rfl, rfl, rfl, rfl, hV0⟩ := hF.1.b0
       refine st_build rfl (by kernel_rfl) (some 53) rfl 33 4 #[(0, .const (.string ⟨#[120]⟩)), (1, .const (.string ⟨#[121]⟩)), (2, .const (.string ⟨#[122]⟩)), (3, .const (.string ⟨#[120]⟩))] rfl #[(0, .string ⟨#[120]⟩), (1, .string ⟨#[121]⟩), (2, .string ⟨#[122]⟩), (3, .string ⟨#[120]⟩)] (by kernel_rfl) (.slice (some ⟨gF, 0, none⟩) 4 4) W1 (by rw [hV0]; exact hbF) ?_
       exact ⟨b0, b1, true, b3, b4, false, false, b7, false, false, b10, false, rfl, rfl, hF.1.b1, hF.2⟩
      ·obtain rfl : b3 = false := ready_self hr
       refine st_val rfl (by kernel_rfl) (some 54) rfl (.int .i64 n9) V (by kernel_rfl) ?_
       exact ⟨b0, b1, b2, true, b4, b5, b6, b7, b8, b9, b10, b11, rfl, rfl, hF⟩
      ·obtain rfl : b4 = false := ready_self hr
       obtain rfl : b3 = true := ready_dep hr 3 (by kernel_rfl)
       refine st_val rfl (by kernel_rfl) (some 55) rfl (.int .i64 (n9 % 4 : Nat)) V (rem_nat rfl n9 4 (by decide) (by kernel_rfl) (by kernel_rfl) _) ?_
       exact ⟨b0, b1, b2, true, true, b5, b6, b7, b8, b9, b10, b11, rfl, rfl, hF⟩
      ·obtain rfl : b5 = false := ready_self hr
       obtain rfl : b2 = true := ready_dep hr 2 (by kernel_rfl)
       obtain rfl : b4 = true := ready_dep hr 4 (by kernel_rfl)
       obtain ⟨rfl, rfl, rfl, rfl⟩ := hF.1.i0
       refine st_val rfl (by kernel_rfl) (some 56) rfl (.pointer (some ⟨gF, 0 + n9 % 4, none⟩)) V (idx_str gF 0 4 4 (n9 % 4) hrl _ _ _ rfl (by kernel_rfl) (by kernel_rfl)) ?_
       exact ⟨b0, b1, true, b3, true, true, false, b7, false, false, b10, false, rfl, rfl, hF.1.i1, hF.2⟩
      ·obtain rfl : b6 = false := ready_self hr
       obtain rfl : b5 = true := ready_dep hr 5 (by kernel_rfl)
       obtain ⟨rfl, rfl, rfl, rfl, hV1⟩ := hF.1.y0
       refine st_load rfl (by kernel_rfl) (some 57) rfl 9 (.tmp 56) rfl ⟨gF, 0 + n9 % 4, none⟩ (.string sN) (by kernel_rfl) (by rw [hV1]; exact hls) ?_
       exact ⟨b0, b1, true, b3, b4, true, true, b7, false, false, b10, false, rfl, rfl, hF.1.y1, fun _ => rfl⟩
      ·obtain rfl : b7 = false := ready_self hr
       obtain rfl : b6 = true := ready_dep hr 6 (by kernel_rfl)
       refine st_val rfl (by kernel_rfl) (some 58) rfl (.agg (tfA (sN, 1))) V (by kernel_rfl) ?_
       exact ⟨b0, b1, b2, b3, b4, b5, true, true, b8, b9, b10, b11, rfl, rfl, hF.1, fun _ => rfl⟩
      ·obtain rfl : b8 = false := ready_self hr
       obtain rfl : b7 = true := ready_dep hr 7 (by kernel_rfl)
       obtain rfl : b6 = true := hF.2 rfl
       obtain ⟨rfl, rfl, rfl, rfl, hV1⟩ := hF.1.e0
       refine st_build rfl (by kernel_rfl) (some 59) rfl 30 1 #[(0, .tmp 58)] rfl #[(0, .agg (tfA (sN, 1)))] (by kernel_rfl) (.slice (some ⟨gE, 0, none⟩) 1 1) W2 (by rw [hV1]; exact hbE) ?_
       exact ⟨b0, b1, true, b3, b4, true, true, true, true, false, b10, false, rfl, rfl, hF.1.e1, hF.2⟩
      ·obtain rfl : b9 = false := ready_self hr
       obtain rfl : b1 = true := ready_dep hr 1 (by kernel_rfl)
       obtain rfl : b8 = true := ready_dep hr 8 (by kernel_rfl)
       obtain ⟨rfl, hV2⟩ := hF.1.p0
       refine st_append rfl (by kernel_rfl) (some 60) rfl 30 rfl (.tmp 52) (.tmp 59) 30 rfl (.slice at7 M.length ct7) (.slice (some ⟨gE, 0, none⟩) 1 1) (.slice a9 m9 c9) W3 (by kernel_rfl) (by kernel_rfl) (by rw [hV2]; exact hap) ?_
       exact ⟨b0, true, b2, b3, b4, b5, b6, b7, true, true, b10, false, rfl, rfl, hF.1.p1, hF.2⟩
      ·obtain rfl : b10 = false := ready_self hr
       refine st_val rfl (by kernel_rfl) (some 61) rfl (.pointer (some ⟨g7, 5, none⟩)) V (by kernel_rfl) ?_
       exact ⟨b0, b1, b2, b3, b4, b5, b6, b7, b8, b9, true, b11, rfl, rfl, hF⟩
      ·obtain rfl : b11 = false := ready_self hr
       obtain rfl : b10 = true := ready_dep hr 10 (by kernel_rfl)
       obtain rfl : b9 = true := ready_dep hr 9 (by kernel_rfl)
       have hV3 := hF.1.s0
       refine st_storeA rfl (by kernel_rfl) rfl 30 (.tmp 61) (.tmp 60) rfl (.pointer (some ⟨g7, 5, none⟩)) (.slice a9 m9 c9) (by kernel_rfl) (by kernel_rfl) W4 (by rw [hV3]; exact hsS) ?_
       exact ⟨b0, b1, b2, b3, b4, b5, b6, b7, b8, true, true, true, rfl, rfl, hF.1.s1, hF.2⟩
     ·intro act9 V hJ
      obtain ⟨b0, b1, b2, b3, b4, b5, b6, b7, b8, b9, b10, b11, he, rfl, hF⟩ := hJ
      have he : (#[true, true, true, true, true, true, true, true, true, true, true, true] : Array Bool) = #[b0, b1, b2, b3, b4, b5, b6, b7, b8, b9, b10, b11] := he
      simp only [Array.mk.injEq, List.cons.injEq, and_true] at he
      obtain ⟨rfl, rfl, rfl, rfl, rfl, rfl, rfl, rfl, rfl, rfl, rfl, rfl⟩ := he
      simp only [cond_true]
      have hVW : V = W4 := hF.1.is
      rw [hVW]
      clear hVW hF h0
      generalize W4 = V9 at *
      clear hT0 hbF hls hT1 hbE hT2 hap hsS hrl HW0
      go_upto_region 9 with fail
      refine wl <| gz1 (.int .i64 n9) <| gzw (.int .i64 ((n9 : Int) - 1)) (sub_i rfl (n9 : Nat) 1 (by have := HN9.out; omega)) <| gz1 (.int .i64 ((n9 : Int) - 1)) <| wn ?_
      simp only [pu]
      go_wp2_with fail
      go_roundg n9
      case measure => have := HG.out; omega
      case rel => exact ⟨(n9 : Int) - 1, _, a9, c9, rfl, by omega, HML.out, HT4, by omega⟩
    ·skip
     have h1m : 1 ≤ M.length ∧ M.length ≤ 16 := by have := HV8.out; omega
     have hq9 := HT.out.q
     obtain ⟨a9, c9, e9, hct, -⟩ := own_cs HT.out.row
     simp only [Value.slice.injEq, true_and] at e9
     obtain ⟨rfl, rfl⟩ := e9
     have CE := ref_encode (tM M) at7 ct7 wr hct (tM_q hq9).b
     have hen := tM_enc hq9 h1m.1 h1m.2
     have HB8 := Lib.hid (tM_b hq9 h1m.1 h1m.2)
     generalize form (tM M) = R9 at *
     clear hct hq9 h1m
     go_upto_region 8 with fail
     refine wl <| gz1 (.int .i64 i9) <| gzb (geq_n rfl i9 0 (decide_eq_false hpos)) <| wn ?_
     simp only [pu]
     go_upto_region 11 with fail
     refine wl <| gzl rfl ⟨g7, 0, none⟩ (.agg (txA (tM M) at7 ct7)) (load_txb HT.out.bx7) <|
      gze (fun v w' => ∃ bE dE, v = .tuple #[.slice bE (List.length R9) dE, .int .i64 0] ∧ Sl w' bE dE R9 ∧ R9.length ≤ dE ∧ Below wr.heap.size wr w') (CE.mono fun e w' q => by obtain ⟨v, h1, h2, h3⟩ := q; obtain ⟨bE, dE, rfl, h4, h5⟩ := h2.sl; rw [hen] at h1 h4 h5; exact ⟨_, h1, bE, dE, rfl, h4, h5, h3⟩) (fun vv V10 hq => ?_)
     obtain ⟨bE, dE, rfl, hsE, hdE, hbE⟩ := hq
     simp only [pu]
     refine gz5 (.tuple #[.slice bE R9.length dE, .int .i64 0]) (.slice bE R9.length dE) (.int .i64 0) (.slice bE R9.length dE) (.int .i64 0) <| wn ?_
     simp only [pu]
     have HTV := Lib.hid (HT.out.below hbE)
     have HSE := Lib.hid hsE
     have HDE := Lib.hid hdE
     have hp1 : W64 1 := ⟨by decide, by decide⟩
     obtain ⟨X, hX⟩ : ∃ X, txX A 0 1 R9 = X := ⟨_, rfl⟩
     have CT := q_tx A 0 1 R9 ad bE k dE V10 HTV.out.cs HAL.out.2 (by have := HAL.out; omega) w64_0 HAQ.out.w HAQ.out.z2 hp1 HSE.out HDE.out HB8.out
     have CR := Lib.hid (fun V (hb : Below V10.heap.size V10 V) => ref_tx A 0 1 R9 ad bE k dE V (HTV.out.cs.below hb) HAL.out.2 (by have := HAL.out; omega) w64_0 HAQ.out.w HAQ.out.z2 hp1 (sl_below HSE.out hb) HDE.out HB8.out)
     have hxn := tx_256 (p := 1) (show A.length ≤ 256 by have := HAL.out; omega) HAQ.out.w w64_0 hp1 HB8.out
     rw [hX] at CT CR hxn
     have HXN := Lib.hid hxn
     clear CE hen hsE hdE hbE HT hX hxn hp1
     go_upto_region 12 with fail
     refine wl <| gzl rfl ⟨g5, 0, none⟩ (.agg (lgA ad A.length k 0)) (load_lg HTV.out.bx5) <| gz1 (.slice bE R9.length dE) <|
      gze (fun v w' => ∃ aZ kZ, v = .tuple #[.agg (lgA aZ X.1.1.length kZ X.1.2), .agg (resA X.2)] ∧ Cs w' aZ (acc X.1.1) ∧ X.1.1.length ≤ kZ ∧ ((aZ = ad ∧ X.1.1 = A) ∨ ∀ x, aZ = some x → V10.heap.size ≤ x.block) ∧ Below V10.heap.size V10 w') (CT.mono fun e w' q => by obtain ⟨aZ, kZ, h1, h2⟩ := q; exact ⟨_, h1, aZ, kZ, rfl, h2⟩) (fun vv U4 hq => ?_)
     obtain ⟨ad1, k1, rfl, hct, hkt, hbl, hbt⟩ := hq
     obtain ⟨Va, Vb, Vc, hVa, hlt, hs6, hs7, hb7, hx4, hx5⟩ := new_lr U4 ad1 X.1.1.length k1 X.1.2 X.2
     simp only [pu]
     refine gz3 (.tuple #[.agg (lgA ad1 X.1.1.length k1 X.1.2), .agg (resA X.2)]) (.agg (lgA ad1 X.1.1.length k1 X.1.2)) (.agg (resA X.2)) ?_
     simp only [pu]
     refine run_to rfl (some 11) rfl (.pointer (some ⟨U4.heap.size, 0, none⟩)) (U4.alloc (.cells (lgA none 0 0 0) 27)) (by kernel_rfl) ?_
     simp only [pu]
     rw [hVa]
     refine run_to rfl (some 12) rfl (.pointer (some ⟨Va.heap.size, 0, none⟩)) (Va.alloc (.cells (resA (zRes 0)) 40)) (by kernel_rfl) ?_
     simp only [pu]
     refine gzs rfl (hs6) <| gzs rfl (hs7) <| wn ?_
     obtain ⟨g11, hga⟩ : ∃ g, U4.heap.size = g := ⟨_, rfl⟩
     obtain ⟨g12, hgb⟩ : ∃ g, Va.heap.size = g := ⟨_, rfl⟩
     have hbA := hbt.trans (hb7.mono hbt.size)
     have hgV : V10.heap.size ≤ g11 := by rw [← hga]; exact hbt.size
     have hgl : g11 < g12 := by rw [← hga, ← hgb]; exact hlt
     rw [hga] at hx4 ⊢
     rw [hgb] at hx5 ⊢
     have hcA := hct.below hb7
     have hltA : acc X.1.1 ≠ [] → ∀ x, ad1 = some x → x.block < g11 := fun hn x hx => by rw [← hga]; exact cs_old hct hn x hx
     clear hVa hlt hs6 hs7 hct hbt hga hgb hb7
     have HX11 := Lib.hid hx4
     have HX12 := Lib.hid hx5
     have HC11 := Lib.hid hcA
     have CRV := CR.out Vc hbA
     have HTW := Lib.hid (HTV.out.below hbA)
     generalize Vc = Ud at *
     clear CT hgV hgl hx4 hx5 hbA hcA hltA hkt hbl CR HTV HSE
     go_upto_region 13 with fail
     refine wl <| gzl rfl ⟨g5, 0, none⟩ (.agg (lgA ad A.length k 0)) (load_lg HTW.out.bx5) <| gz1 (.slice bE R9.length dE) <|
      gze (fun v w' => ∃ aZ kZ, v = .tuple #[.agg (lgA aZ X.1.1.length kZ X.1.2), .agg (resA X.2)] ∧ Cs w' aZ (acc X.1.1) ∧ X.1.1.length ≤ kZ ∧ ((aZ = ad ∧ X.1.1 = A) ∨ ∀ x, aZ = some x → Ud.heap.size ≤ x.block) ∧ Below Ud.heap.size Ud w') (CRV.mono fun e w' q => by obtain ⟨aZ, kZ, h1, h2⟩ := q; exact ⟨_, h1, aZ, kZ, rfl, h2⟩) (fun vv U5 hq => ?_)
     obtain ⟨ad2, k2, rfl, hct, hkt, hbl, hbt⟩ := hq
     obtain ⟨Va, Vb, Vc, hVa, hlt, hs6, hs7, hb7, hx4, hx5⟩ := new_lr U5 ad2 X.1.1.length k2 X.1.2 X.2
     simp only [pu]
     refine gz3 (.tuple #[.agg (lgA ad2 X.1.1.length k2 X.1.2), .agg (resA X.2)]) (.agg (lgA ad2 X.1.1.length k2 X.1.2)) (.agg (resA X.2)) ?_
     simp only [pu]
     refine run_to rfl (some 13) rfl (.pointer (some ⟨U5.heap.size, 0, none⟩)) (U5.alloc (.cells (lgA none 0 0 0) 27)) (by kernel_rfl) ?_
     simp only [pu]
     rw [hVa]
     refine run_to rfl (some 14) rfl (.pointer (some ⟨Va.heap.size, 0, none⟩)) (Va.alloc (.cells (resA (zRes 0)) 40)) (by kernel_rfl) ?_
     simp only [pu]
     refine gzs rfl (hs6) <| gzs rfl (hs7) <| wn ?_
     obtain ⟨g13, hga⟩ : ∃ g, U5.heap.size = g := ⟨_, rfl⟩
     obtain ⟨g14, hgb⟩ : ∃ g, Va.heap.size = g := ⟨_, rfl⟩
     have hbA := hbt.trans (hb7.mono hbt.size)
     have hgV : Ud.heap.size ≤ g13 := by rw [← hga]; exact hbt.size
     have hgl : g13 < g14 := by rw [← hga, ← hgb]; exact hlt
     rw [hga] at hx4 ⊢
     rw [hgb] at hx5 ⊢
     have hcA := hct.below hb7
     have hltA : acc X.1.1 ≠ [] → ∀ x, ad2 = some x → x.block < g13 := fun hn x hx => by rw [← hga]; exact cs_old hct hn x hx
     clear hVa hlt hs6 hs7 hct hbt hga hgb hb7
     have HX13 := Lib.hid hx4
     have HX14 := Lib.hid hx5
     have hX12 := HX12.out.below HX12.out.lt hbA
     have hX11 := HX11.out.below HX11.out.lt hbA
     have CSL := ref_sameled X.1.1 X.1.2 ad1 ad2 k1 k2 Vc (HC11.out.below hbA) hcA (by have := HXN.out; omega)
     have HBB := Lib.hid (HTW.out.bel.trans (hbA.mono HTW.out.bel.size))
     clear hgV hgl hx4 hx5 hbA hcA hltA hkt hbl CRV HX12 HC11 HTW
     go_upto_region 14 with fail
     refine wl <| gz1 (.int .i64 0) <| gzb (eql_e rfl 0 0 (decide_eq_true rfl)) <| gz1 (.bool true) <| gzl rfl ⟨g12, 0, none⟩ (.agg (resA X.2)) (load_res hX12) <| gzl rfl ⟨g14, 0, none⟩ (.agg (resA X.2)) (load_res HX14.out) <|
      gzw (.bool true) (eql_res rfl X.2) <| gz2 (.bool true) (.bool true) <| gzl rfl ⟨g11, 0, none⟩ (.agg (lgA ad1 X.1.1.length k1 X.1.2)) (load_lg hX11) <| gzl rfl ⟨g13, 0, none⟩ (.agg (lgA ad2 X.1.1.length k2 X.1.2)) (load_lg HX13.out) <|
      gzc (.bool true) (fun w' => Below Vc.heap.size Vc w') CSL (fun V8z hV8z => ?_)
     simp only [pu]
     refine gz3 (.bool true) (.bool true) (.pointer (some ⟨g11, 0, none⟩)) <| gzl rfl ⟨g11, 0, none⟩ (.slice ad1 X.1.1.length k1) ((hX11.below hX11.lt hV8z).load (i := 0) rfl (by kernel_rfl)) <| gz1 (.int .i64 X.1.1.length) <|
      gzb (leq_n rfl X.1.1.length 256 (decide_eq_true (by have := HXN.out; omega))) <| gz2 (.bool true) (.bool true) <| gzc (.bool true) (fun w' => Below w.heap.size w w') (HK.out V8z (HBB.out.trans (hV8z.mono HBB.out.size))) (fun V9z hV9z => ?_)
     simp only [pu]
     refine gz2 (.bool true) (.bool true) <| wn ?_
     simp only [pu]
     have HE := Lib.hid hV9z
     clear hV9z
     go_wp2_with fail
     go_ret
     exact ⟨rfl, HE.out⟩
end Go.Proofs.Ytglglhcnofbagaa.Lg
namespace Go.Proofs.Ytglglhcnofbagaa.Lg.applyLimits
set_option maxRecDepth 100000
open Go.ChangeShapes Go.WideShapes Go.ChangeAt Go.RowKit
set_option linter.unusedVariables false

theorem own : ownKnob Try.prog.godebug = none := by kernel_rfl
theorem size_list (x : ByteArray) : x.data.toList.length = x.size := Array.length_toList
theorem laidOut : laidOutB Try.prog = true := by kernel_rfl

theorem walk (x0 : Int) (x1 : Int) (w : World) (w0 : (Lit.int .i64 x0).wf = true) (w1 : (Lit.int .i64 x1).wf = true) :
    Calls Try.prog 3 #[.int .i64 x0, .int .i64 x1] w fun e w' => e = .returned (.bool true) ∧ Below w.heap.size w w' := by
  exact limits_core x0 x1 w

set_option maxRecDepth 100000 in
set_option maxHeartbeats 1000000 in
theorem contract (H : Type) (enc : TypeId × Value → H) (W : World) (base : Nat) (args : Array Value) (ds gs : List (DataW H)) (before : List MemPlace)
    (hval0 : ∀ (j : Nat) t v, Try.f3.params[j]? = some t → args[j]? = some v → Value.okWide Try.prog W .any base t v)
    (hW : DataW.Whole enc Try.prog Try.f3.params.toList Rows.applyLimitsSpec.vars false W args.toList ds gs before)
    (hz : (DataW.weightsEach Try.prog (Try.f3.params.toList ++ Rows.applyLimitsSpec.plain.varTypes Try.prog) (ds ++ gs)).all (· ≤ reachBytes) = true) :
    Calls Try.prog 3 args W fun e W' => ∃ v, e = .returned v ∧ Rows.applyLimitsSpec.post enc Try.prog Try.f3 false true false false W args v W' := by
  have hval := hval0
  have hW' := hW
  obtain ⟨p, q, hA0, hV, rfl, hfz, hnd⟩ := hW
  have hA := hA0
  rw [Try.params3] at hA hval
  obtain ⟨v0, vs0, d0, ds0, p0, q0, hargs, rfl, rfl, h0, rr0⟩ := trodAll_cons hA
  obtain ⟨v1, vs1, d1, ds1, p1, q1, rfl, rfl, rfl, h1, rr1⟩ := trodAll_cons rr0
  obtain ⟨rfl, rfl, rfl⟩ := trodAll_nil rr1
  obtain rfl : args = #[v0, v1] := by cases args; simp_all
  obtain ⟨rfl, rfl⟩ := trodVars_none hV
  obtain ⟨x0, rfl, rfl, rfl, w0⟩ := open_int Try.underlying3 (hval 0 3 v0 rfl rfl) h0
  obtain ⟨x1, rfl, rfl, rfl, w1⟩ := open_int Try.underlying3 (hval 1 3 v1 rfl rfl) h1
  clear hA0 hval0
  refine (walk x0 x1 W w0 w1).mono fun e W' ⟨he, bel⟩ => ?_
  subst he
  exact ⟨_, rfl, _, _, _, [], _, [], hW', trodAll_mk1 (shut_bool Try.underlying4 _), (trodAll_cons_mk (shut_int Try.underlying3 w0) (trodAll_cons_mk (shut_int Try.underlying3 w1) trodAll_mk0)), rfl, bel.frame _, fun h => by cases h⟩

set_option maxRecDepth 100000 in
theorem lifted (os : Os) (started : os.Started) (H : Type) (enc : TypeId × Value → H) :
    ReturnsInHanded {} Try.checked os 3 .any (Rows.applyLimitsSpec.pre6 enc Try.prog Try.f3 Rows.applyLimitsRow.domain false) (Rows.applyLimitsSpec.post enc Try.prog Try.f3 false true false false) := by
  refine returnsInHanded_of_change_sized (C := Try.checked) own started (by kernel_rfl) Try.func3
    (ChangeSpec.witness6 (enc := enc) (C := Try.checked) false ⟨#[], #[.int .i64 0, .int .i64 0], []⟩ 8 (by kernel_rfl) (by kernel_rfl) (by kernel_rfl) (by kernel_rfl)) ?_
  intro W base args ds gs before hval hW _ hz _
  exact contract H enc W base args ds gs before hval hW hz

/-- THE STATEMENT -/
theorem proved : Rows.ApplyLimitsSaid :=
  OpenClaim.holds_of_wide 3 Try.f3 rfl rfl rfl rfl rfl rfl rfl ⟨rfl, rfl, rfl, rfl, rfl⟩ rfl rfl rfl rfl rfl (by kernel_rfl) Try.func3 (by kernel_rfl)
    (of_decide_eq_true (by kernel_rfl)) (by unfold Func.isWrapper; first | (rw [if_pos (by decide +kernel)]; kernel_rfl) | (rw [if_neg (by decide +kernel)]; exact ⟨rfl, rfl⟩))
    (fun os started H enc _ => lifted os started H enc)
#print axioms proved
end Go.Proofs.Ytglglhcnofbagaa.Lg.applyLimits
