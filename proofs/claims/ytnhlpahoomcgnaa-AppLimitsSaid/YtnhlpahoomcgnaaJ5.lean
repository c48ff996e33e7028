/-
  Texts UA TA PN PM joined.
-/
import Derived.Test.YtnhlpahoomcgnaaJ4
import Derived.Lib.ConvBytes
import Derived.Test.YtnhlpahoomcgnaaJ1
import Derived.Laws.RangeString
set_option maxRecDepth 100000
set_option maxHeartbeats 8000000
set_option linter.unusedSimpArgs false
set_option linter.unusedVariables false
namespace Go.Proofs.Ytnhlpahoomcgnaa
attribute [local irreducible] wpList wpQuiet
open Go.RowKit
def EP (w : World) (B : Nat) (v : Value) (p : Zp × Value) : Prop := ∃ a c, p.2 = .slice a p.1.bytes.length c ∧ Sl w a c p.1.bytes ∧ ∀ x, a = some x → B ≤ x.block ∧ x.block < w.heap.size ∧ v.ownBlock ≠ some x.block
def YB (w : World) (B : Nat) (v : Value) (ps : List (Zp × Value)) : Prop := w.ownsRow B 99 4 v ps.length (row4 ps) ∧ ∀ p, p ∈ ps → EP w B v p
theorem YB.nil (w : World) (B : Nat) : YB w B (.slice none 0 0) [] := ⟨World.ownsRow_nil _ _ _ _, fun p h => by simp at h⟩
theorem EP.below {w w' : World} {B : Nat} {v : Value} {p : Zp × Value} (h : EP w B v p) (hb : Below w.heap.size w w') : EP w' B v p := by
 obtain ⟨a, c, h1, h2, h3⟩ := h
 exact ⟨a, c, h1, ZH h2 hb, fun x hx => ⟨(h3 x hx).1, Nat.lt_of_lt_of_le (h3 x hx).2.1 hb.size, (h3 x hx).2.2⟩⟩
theorem YB.below {w w' : World} {B : Nat} {v : Value} {ps : List (Zp × Value)} (h : YB w B v ps) (hb : Below w.heap.size w w') : YB w' B v ps := ⟨own_below h.1 hb, fun p hp => (h.2 p hp).below hb⟩
theorem YB.form {w : World} {B : Nat} {v : Value} {ps : List (Zp × Value)} (h : YB w B v ps) : ∃ a c, v = .slice a ps.length c ∧ ps.length ≤ c := by
 rcases h.1.2 with ⟨rfl, h0⟩ | ⟨g, cap, cur, rfl, _, _, hcap, _⟩
 ·exact ⟨none, 0, by rw [h0], by omega⟩
 ·exact ⟨_, cap, rfl, hcap⟩
theorem YB.fs {w : World} {B : Nat} {v : Value} {ps : List (Zp × Value)} (h : YB w B v ps) : ∃ a c, v = .slice a ps.length c ∧ ps.length ≤ c ∧ Fs w a ps := by
 obtain ⟨a, c, rfl, hc⟩ := h.form
 refine ⟨a, c, rfl, hc, fun i p hi => ?_⟩
 have hlt : i < ps.length := (List.getElem?_eq_some_iff.1 hi).1
 obtain ⟨g, rfl, hg, hgl⟩ := VI h.1 (by omega)
 obtain ⟨ba, bc, hb, hs, -⟩ := h.2 p (List.mem_of_getElem? hi)
 refine ⟨g, 0, ba, bc, rfl, hb, hs, ?_, ?_, ?_, ?_⟩
 ·rw [h.1.cellAt _ (by omega), show 0 + i * 4 = i * 4 + 0 by omega, Xr ps i 0 p hi (by omega)]
  rfl
 ·rw [h.1.cellAt _ (by omega), show 0 + i * 4 + 1 = i * 4 + 1 by omega, Xr ps i 1 p hi (by omega)]
  rfl
 ·rw [h.1.cellAt _ (by omega), show 0 + i * 4 + 2 = i * 4 + 2 by omega, Xr ps i 2 p hi (by omega)]
  rfl
 ·rw [h.1.cellAt _ (by omega), show 0 + i * 4 + 3 = i * 4 + 3 by omega, Xr ps i 3 p hi (by omega)]
  simp only [cellsOf, List.getElem?_cons_succ, List.getElem?_cons_zero, hb]
theorem EP.grown {w w' : World} {B : Nat} {v v' : Value} {p : Zp × Value} (h : EP w B v p) (hg : w.grownBy w' v.ownBlock) (hat : v'.ownBlock = v.ownBlock ∨ v'.ownBlock = some w.heap.size) : EP w' B v' p := by
 obtain ⟨a, c, h1, h2, h3⟩ := h
 refine ⟨a, c, h1, ?_, fun x hx => ⟨(h3 x hx).1, Nat.lt_of_lt_of_le (h3 x hx).2.1 hg.size, fun e => ?_⟩⟩
 ·rcases h2 with h2 | ⟨x, rfl, hx⟩
  ·exact .inl h2
  ·refine .inr ⟨x, rfl, fun k hk => ?_⟩
   obtain ⟨b, off, rfl, hc⟩ := hx k hk
   exact ⟨b, off, rfl, hg.cell hc fun e => (h3 _ rfl).2.2 e.symm⟩
 ·rcases hat with h4 | h4
  ·exact (h3 x hx).2.2 (h4.symm.trans e)
  ·have h5 := h4.symm.trans e
   have := (h3 x hx).2.1
   simp only [Option.some.injEq] at h5
   omega
theorem Js {w : World} {B : Nat} {v : Value} {ps : List (Zp × Value)} (h : YB w B v ps) (hB : B ≤ w.heap.size) (x : Zp) (b : Option Addr) (d : Nat) (hx : EP w B v (x, .slice b x.bytes.length d)) (hl : ps.length ≤ 100000) :
  ∃ v2 V2, (Builtin.append_ #[94, 94] 94 #[v, .slice (some ⟨w.heap.size, 0, none⟩) 1 1]).run Try.prog (w.alloc (.cells (Yh x b d) 99)) = .ok v2 V2 ∧ YB V2 B v2 (ps ++ [(x, .slice b x.bytes.length d)]) ∧ Below B w V2 := by
 have hba : Below w.heap.size w (w.alloc (.cells (Yh x b d) 99)) := (Below.refl _ w).alloc (Nat.le_refl _) _
 have hO := own_below h.1 hba
 have hsz : (w.alloc (.cells (Yh x b d) 99)).heap.size = w.heap.size + 1 := by simp
 obtain ⟨i0, hi, hz0, hz1, hz2⟩ := info_parts info25
 obtain ⟨v2, V2, hr, hO2, hg, -, hat⟩ := run_append_own_at (P := Try.prog) (w.alloc (.cells (Yh x b d) 99)) B 94 94 99 i0 _ 4 48 (by kernel_rfl) hi hz0 hz1 hz2 (by kernel_rfl) (by omega) v ps.length (row4 ps) hO ⟨w.heap.size, 0, none⟩ 1 1 (cellsOf (x, .slice b x.bytes.length d)) rfl (fun j u hu => by
  rw [Go.WideShapes.add_plain, cell_of_row _ w.heap.size (0 + j) _ 99 (0, 0) (heap_alloc_last w _), Nat.zero_add]
  simpa [cellsOf] using hu) (fun u hu => by
  simp only [cellsOf, List.mem_cons, List.not_mem_nil, or_false] at hu
  rcases hu with rfl | rfl | rfl | rfl <;> rfl) (by unfold maxLen; omega) (by omega) (by omega)
 refine ⟨v2, V2, hr, ⟨by rw [OZ, List.length_append]; exact hO2, fun p hp => ?_⟩, (hba.mono hB).trans ((Below.refl _ _).grown hg (by omega) fun j hj => (hO.lt j hj).1)⟩
 rcases List.mem_append.1 hp with hp | hp
 ·exact ((h.2 p hp).below hba).grown hg hat
 ·obtain rfl : p = (x, .slice b x.bytes.length d) := by simpa using hp
  exact (hx.below hba).grown hg hat
def PG (w : World) (B : Nat) (ps : List (Zp × Value)) (X : List Zp) (e : Ending) (w' : World) : Prop := ∃ v qs, e = .returned v ∧ qs.map Prod.fst = ps.map Prod.fst ++ X ∧ YB w' B v qs ∧ Below B w w'
theorem EP.non (w : World) (B : Nat) (v : Value) (x : Zp) (h : x.bytes = []) : EP w B v (x, .slice none x.bytes.length 0) := ⟨none, 0, rfl, .inl ⟨rfl, rfl, h⟩, fun y hy => by cases hy⟩
theorem Rx (v : Value) (ps : List (Zp × Value)) (B : Nat) (k val : Int) (w : World) (h : YB w B v ps) (hB : B ≤ w.heap.size) (hl : ps.length ≤ 100000) :
  Calls Try.prog 43 #[v, Z8 k, Z7 val] w (PG w B ps (if val = 0 then [] else [⟨k, 0, val, []⟩])) := by
 by_cases h0 : val = 0
 ·rw [if_pos h0]
  have HE := Z9 (⟨v, ps, rfl, by simp, h, Below.refl _ _⟩ : PG w B ps [] (.returned v) w)
  clear h
  go_enter Try.func43, Try.ntmps43
  go_upto_region 1 with fail
  refine wl <| ZV (Z7 val) <| ZM (Wv rfl val (decide_eq_true h0)) <| wn ?_
  simp only [pu]
  go_upto_region 2 with fail
  refine wl <| ZG (v) (v) <| wn ?_
  simp only [pu]
  go_wp2_with fail
  go_ret
  exact HE.out
 ·rw [if_neg h0]
  obtain ⟨v2, V2, hap, hr2, hb2⟩ := Js h hB ⟨k, 0, val, []⟩ none 0 (EP.non w B v _ rfl) hl
  have HE := Z9 (⟨v2, _, rfl, by simp, hr2, hb2⟩ : PG w B ps [⟨k, 0, val, []⟩] (.returned v2) V2)
  clear h hr2 hb2
  go_enter Try.func43, Try.ntmps43
  go_upto_region 1 with fail
  refine wl <| ZV (Z7 val) <| ZM (Wv rfl val (decide_eq_false h0)) <| wn ?_
  simp only [pu]
  go_upto_region 3 with fail
  refine wl <| Xl (v) (Z8 k) (Z7 val) (.agg (Yh (⟨k, 0, val, []⟩ : Zp) none 0)) ?_
  simp only [pu]
  refine Zh (by kernel_rfl) (some 14) rfl 94 1 #[(0, .tmp 13)] rfl #[(0, .agg (Yh (⟨k, 0, val, []⟩ : Zp) none 0))] (by kernel_rfl) (.slice (some ⟨w.heap.size, 0, none⟩) 1 1) _ (Qv (⟨k, 0, val, []⟩ : Zp) none 0 w) ?_
  simp only [pu]
  refine Y4 rfl (some 15) rfl 94 rfl (.tmp 10) (.tmp 14) 94 rfl (v) (.slice (some ⟨w.heap.size, 0, none⟩) 1 1) (v2) V2 (by kernel_rfl) (by kernel_rfl) hap ?_
  simp only [pu]
  refine ZV (v2) <| wn ?_
  simp only [pu]
  clear hap
  go_wp2_with fail
  go_ret
  exact HE.out
theorem Ui {ρ : Operand → Value} {o : Oper} {x y : Operand} (ho : o.op = .binOp .eql 9 x y 9) (a b : ByteArray) {t : Bool} (ht : (a == b) = t) (hx : ρ x = .string a) (hy : ρ y = .string b) (w : World) : (execOp ρ o).run Try.prog w = .ok (.value (.bool t)) w := by
 have e : (a.toList == b.toList) = t := by rw [← beq_toListBytes]; exact ht
 unfold execOp
 simp only [ho, hx, hy]
 go_simp
theorem xB {s : ByteArray} (h : s.size = 0) : (s == (⟨#[]⟩ : ByteArray)) = true := by
 have e : s = ⟨#[]⟩ := ByteArray.ext (Array.eq_empty_of_size_eq_zero h)
 subst e
 rfl
theorem BU {s : ByteArray} (h : s.size ≠ 0) : (s == (⟨#[]⟩ : ByteArray)) = false := by
 rw [Bool.eq_false_iff]
 intro e
 rw [beq_toListBytes] at e
 have e2 := eq_of_beq e
 rw [ByteArray.toList_eq, ByteArray.toList_eq] at e2
 have e3 := congrArg List.length e2
 exact h (by simpa using e3)
theorem Cm {ρ : Operand → Value} {o : Oper} {x : Operand} (ho : o.op = .convert 9 50 x) (s : ByteArray) (hx : ρ x = .string s) (w : World) : (execOp ρ o).run Try.prog w = .ok (.value (.slice (some ⟨w.heap.size, 0, none⟩) s.size (grownCap w s.size 0 5))) (Lib.bytesWorld w 5 s) := by
 have h := Lib.run_convert_string_bytes (P := Try.prog) w 9 50 5 s Try.underlying9 Try.underlying50 Try.underlying5
 unfold execOp
 simp only [ho, hx, Sem.run_bind, h]
 rfl
theorem Qs (w : World) (s : ByteArray) (c : Nat) : Below w.heap.size w (Lib.bytesWorld w 5 s) ∧ Sl (Lib.bytesWorld w 5 s) (some ⟨w.heap.size, 0, none⟩) c (nums s) ∧ (Lib.bytesWorld w 5 s).heap.size = w.heap.size + 1 := by
 refine ⟨⟨rfl, rfl, rfl, by rw [Lib.bytesWorld_size]; omega, fun k hk => Lib.bytesWorld_at_old w _ s k hk⟩, .inr ⟨_, rfl, fun k hk => ⟨w.heap.size, 0, rfl, ?_⟩⟩, Lib.bytesWorld_size w _ s⟩
 rw [Zx] at hk
 rw [Nat.zero_add, Lib.bytesWorld_cell w _ s k hk]
 unfold nums
 simp [List.getD_eq_getElem?_getD, List.getElem?_map]
 cases h : s.data[k]? with
 | none =>
  rw [Array.getElem?_eq_none_iff] at h
  exact absurd hk (by show ¬ k < s.data.size; omega)
 | some u => simp
theorem Ll (v : Value) (ps : List (Zp × Value)) (B : Nat) (k : Int) (s : ByteArray) (w : World) (h : YB w B v ps) (hB : B ≤ w.heap.size) (hl : ps.length ≤ 100000) :
  Calls Try.prog 42 #[v, Z8 k, .string s] w (PG w B ps (if s.size = 0 then [] else [⟨k, 2, 0, nums s⟩])) := by
 by_cases h0 : s.size = 0
 ·rw [if_pos h0]
  have HE := Z9 (⟨v, ps, rfl, by simp, h, Below.refl _ _⟩ : PG w B ps [] (.returned v) w)
  have HQ := xB h0
  clear h
  go_enter Try.func42, Try.ntmps42
  go_upto_region 1 with fail
  refine wl <| ZV (.string s) <| YN Z4 (Ui rfl s ⟨#[]⟩ HQ) <| wn ?_
  simp only [pu]
  go_upto_region 2 with fail
  refine wl <| ZG (v) (v) <| wn ?_
  simp only [pu]
  go_wp2_with fail
  go_ret
  exact HE.out
 ·rw [if_neg h0]
  obtain ⟨hbw, hsl, hsz⟩ := Qs w s (grownCap w s.size 0 5)
  have HQ := BU h0
  have CV := fun (ρ : Operand → Value) (o : Oper) (x : Operand) ho hx => Cm (ρ := ρ) (o := o) (x := x) ho s hx w
  generalize grownCap w s.size 0 5 = d at *
  generalize Lib.bytesWorld w 5 s = W at *
  obtain ⟨q, hq⟩ := ZR w.heap.size
  have iq : EP W B v ((⟨k, 2, 0, nums s⟩ : Zp), .slice (some ⟨q, 0, none⟩) (nums s).length d) := ⟨_, _, rfl, by rw [← hq]; exact hsl, fun x hx => by
   cases hx
   refine ⟨by show B ≤ q; omega, by show q < _; omega, fun e => ?_⟩
   have h4 : q < w.heap.size := (h.1.lt _ e).2
   omega⟩
  obtain ⟨v2, V2, hap, hr2, hb2⟩ := Js (h.below hbw) (by omega) ⟨k, 2, 0, nums s⟩ (some ⟨q, 0, none⟩) d iq hl
  have HE := Z9 (⟨v2, _, rfl, by simp, hr2, (hbw.mono hB).trans hb2⟩ : PG w B ps [⟨k, 2, 0, nums s⟩] (.returned v2) V2)
  rw [hq] at CV
  rw [← Zx s] at CV
  clear h hr2 hb2 iq hsl hbw hsz hq
  generalize nums s = L at *
  go_enter Try.func42, Try.ntmps42
  go_upto_region 1 with fail
  refine wl <| ZV (.string s) <| YN ZY (Ui rfl s ⟨#[]⟩ HQ) <| wn ?_
  simp only [pu]
  go_upto_region 3 with fail
  refine wl <| YT (v) (Z8 k) (.string s) ?_
  simp only [pu]
  refine UZ (by kernel_rfl) (some 13) rfl (.slice (some ⟨q, 0, none⟩) L.length d) W (CV _ _ _ rfl (by kernel_rfl)) ?_
  simp only [pu]
  refine ZV (.agg (Yh (⟨k, 2, 0, L⟩ : Zp) (some ⟨q, 0, none⟩) d)) ?_
  simp only [pu]
  refine Zh (by kernel_rfl) (some 15) rfl 94 1 #[(0, .tmp 14)] rfl #[(0, .agg (Yh (⟨k, 2, 0, L⟩ : Zp) (some ⟨q, 0, none⟩) d))] (by kernel_rfl) (.slice (some ⟨W.heap.size, 0, none⟩) 1 1) _ (Qv (⟨k, 2, 0, L⟩ : Zp) (some ⟨q, 0, none⟩) d W) ?_
  simp only [pu]
  refine Y4 rfl (some 16) rfl 94 rfl (.tmp 10) (.tmp 15) 94 rfl (v) (.slice (some ⟨W.heap.size, 0, none⟩) 1 1) (v2) V2 (by kernel_rfl) (by kernel_rfl) hap ?_
  simp only [pu]
  refine ZV (v2) <| wn ?_
  simp only [pu]
  clear hap CV
  go_wp2_with fail
  go_ret
  exact HE.out
end Go.Proofs.Ytnhlpahoomcgnaa
namespace Go.Proofs.Ytnhlpahoomcgnaa
open Go.RowKit
def Vr : ByteArray := ⟨#[]⟩
theorem iy {s : ByteArray} (h : s.size = 0) : s = Vr := ByteArray.ext (Array.eq_empty_of_size_eq_zero h)
def tF (k : Int) (s : ByteArray) : List Zp := if s.size = 0 then [] else [⟨k, 2, 0, nums s⟩]
def nF (k v : Int) : List Zp := if v = 0 then [] else [⟨k, 0, v, []⟩]
def Ti (x : Tf) : List Zp := tF 1 x.1 ++ nF 2 x.2
def VZ (x : Tf) : Zp := ⟨6, 2, 0, msg (Ti x)⟩
def JZ (t : Zf) : List Zp := tF 1 t.snd ++ (nF 2 t.sq ++ (nF 3 t.Zk ++ (nF 4 t.Y6 ++ (tF 5 t.memo ++ t.tr.map VZ))))
def form (t : Zf) : List Int := msg (JZ t)
theorem Hq {k : Int} {s : ByteArray} (h : s.size = 0) : tF k s = [] := if_pos h
theorem Qr {k : Int} {s : ByteArray} (h : s.size ≠ 0) : tF k s = [⟨k, 2, 0, nums s⟩] := if_neg h
theorem Ho (k : Int) : nF k 0 = [] := rfl
theorem Qq {k v : Int} (h : v ≠ 0) : nF k v = [⟨k, 0, v, []⟩] := if_neg h
theorem QN : msg [] = [] := rfl
theorem SN (f : Zp) (r : List Zp) : msg (f :: r) = YP f ++ msg r := rfl
theorem Jp (k : Int) (s : ByteArray) : (msg (tF k s)).length ≤ 20 + s.size ∧ s.size ≤ (msg (tF k s)).length := by
 by_cases h : s.size = 0
 ·rw [Hq h, QN]
  exact ⟨by simp, by rw [h]; simp⟩
 ·rw [Qr h, SN, QN, List.append_nil]
  have a := NG ⟨k, 2, 0, nums s⟩
  have b := UY k 2 0 (nums s)
  rw [Zx] at b
  have c : (⟨k, 2, 0, nums s⟩ : Zp).bytes.length = s.size := Zx s
  exact ⟨by omega, b⟩
theorem ND (k v : Int) : (msg (nF k v)).length ≤ 20 := by
 by_cases h : v = 0
 ·subst h; rw [Ho, QN]; simp
 ·rw [Qq h, SN, QN, List.append_nil]
  have a := NG ⟨k, 0, v, []⟩
  simpa using a
theorem NP (x : Tf) : (msg (Ti x)).length ≤ 40 + x.1.size ∧ x.1.size ≤ (msg (Ti x)).length := by
 unfold Ti
 rw [WC, List.length_append]
 have a := Jp 1 x.1
 have b := ND 2 x.2
 omega
theorem xJ (x : Tf) : (YP (VZ x)).length ≤ 60 + x.1.size ∧ 60 + x.1.size ≤ 61 * (YP (VZ x)).length := by
 have a := NG (VZ x)
 have b := UY 6 2 0 (msg (Ti x))
 have b2 : (msg (Ti x)).length ≤ (YP (VZ x)).length := b
 have c := NP x
 have d := UW (VZ x)
 have e : (VZ x).bytes.length = (msg (Ti x)).length := rfl
 omega
def Hl : List Tf → Nat
 | [] => 0
 | x :: r => 60 + x.1.size + Hl r
def FV (t : Zf) : Nat := 100 + t.snd.size + t.memo.size + Hl t.tr
theorem Hu : ∀ A : List Tf, 60 * A.length ≤ Hl A
 | [] => by simp [Hl]
 | x :: r => by have := Hu r; rw [Hl, List.length_cons]; omega
theorem Hg {A : List Tf} {x : Tf} (h : x ∈ A) : 60 + x.1.size ≤ Hl A := by
 induction A with
 | nil => cases h
 | cons y r ih =>
  rw [Hl]
  rcases List.mem_cons.1 h with rfl | h
  ·omega
  ·have := ih h; omega
theorem Hf : ∀ A : List Tf, (msg (A.map VZ)).length ≤ Hl A ∧ Hl A ≤ 61 * (msg (A.map VZ)).length
 | [] => by simp [msg, Hl]
 | x :: r => by
  have a := Hf r
  have b := xJ x
  rw [List.map_cons, SN, List.length_append, Hl]
  omega
theorem QA (t : Zf) : (form t).length ≤ FV t ∧ FV t ≤ 100 + 61 * (form t).length := by
 unfold form JZ FV
 rw [WC, WC, WC, WC, WC]
 simp only [List.length_append]
 have a := Jp 1 t.snd
 have b := ND 2 t.sq
 have c := ND 3 t.Zk
 have d := ND 4 t.Y6
 have e := Jp 5 t.memo
 have f := Hf t.tr
 omega
structure Gz (t : Zf) : Prop where
 sq : W64 t.sq
 Zk : W64 t.Zk
 Y6 : W64 t.Y6
 am : ∀ x, x ∈ t.tr → W64 x.2
 wt : FV t ≤ 800000
theorem X0 : W64 0 := ⟨by decide, by decide⟩
theorem pz {k : Int} {s : ByteArray} (h1 : 1 ≤ k) (h2 : k ≤ 536870911) (hs : s.size ≤ 1000000) : ∀ f, f ∈ tF k s → Vf f ∧ f.num = k := fun f hf => by
 by_cases h : s.size = 0
 ·rw [Hq h] at hf; cases hf
 ·rw [Qr h, List.mem_singleton] at hf
  subst hf
  exact ⟨⟨⟨h1, h2, .inr ⟨rfl, rfl⟩⟩, X0, fun x hx => FQ s x hx, by rw [Zx]; exact hs⟩, rfl⟩
theorem xI {k v : Int} (h1 : 1 ≤ k) (h2 : k ≤ 536870911) (hv : W64 v) : ∀ f, f ∈ nF k v → Vf f ∧ f.num = k := fun f hf => by
 by_cases h : v = 0
 ·subst h; rw [Ho] at hf; cases hf
 ·rw [Qq h, List.mem_singleton] at hf
  subst hf
  exact ⟨⟨⟨h1, h2, .inl ⟨rfl, rfl⟩⟩, hv, fun x (hx : x ∈ ([] : List Int)) => (by cases hx), Nat.zero_le _⟩, rfl⟩
theorem Po {P : List Zp} (h : ∀ f, f ∈ P → Vf f) : ∀ x, x ∈ msg P → 0 ≤ x ∧ x ≤ 255 := fun x hx => by
 obtain ⟨f, hf, hx⟩ := List.mem_flatMap.1 hx
 exact Jo f (h f hf) x hx
theorem Dn {x : Tf} (hs : x.1.size ≤ 900000) (hv : W64 x.2) : ∀ f, f ∈ Ti x → Vf f := fun f hf => by
 rcases List.mem_append.1 hf with hf | hf
 ·exact (pz (by decide) (by decide) (by omega) f hf).1
 ·exact (xI (by decide) (by decide) hv f hf).1
theorem iw {x : Tf} (hs : x.1.size ≤ 900000) (hv : W64 x.2) : Vf (VZ x) := ⟨⟨by show (1 : Int) ≤ 6; decide, by show (6 : Int) ≤ 536870911; decide, .inr ⟨rfl, rfl⟩⟩, X0, Po (Dn hs hv), by have := NP x; show (msg (Ti x)).length ≤ 1000000; omega⟩
theorem Gz.vf {t : Zf} (h : Gz t) : ∀ f, f ∈ JZ t → Vf f := fun f hf => by
 have hw := h.wt
 unfold FV at hw
 unfold JZ at hf
 simp only [List.mem_append] at hf
 rcases hf with hf | hf | hf | hf | hf | hf
 ·exact (pz (by decide) (by decide) (by omega) f hf).1
 ·exact (xI (by decide) (by decide) h.sq f hf).1
 ·exact (xI (by decide) (by decide) h.Zk f hf).1
 ·exact (xI (by decide) (by decide) h.Y6 f hf).1
 ·exact (pz (by decide) (by decide) (by omega) f hf).1
 ·obtain ⟨x, hx, rfl⟩ := List.mem_map.1 hf
  have := Hg hx
  exact iw (by omega) (h.am x hx)
theorem Gz.tr {t : Zf} (h : Gz t) {x : Tf} (hx : x ∈ t.tr) : x.1.size ≤ 800000 ∧ W64 x.2 := by
 have hw := h.wt
 unfold FV at hw
 have := Hg hx
 exact ⟨by omega, h.am x hx⟩
theorem Le {P : List Zp} (h : ∀ f, f ∈ P → Vf f) (hn : P.length ≤ 1024) : YD (msg P) = (P, 0, 0) := by
 have := Ld P ((msg P).length + 1) [] 0 h (by simpa using hn) (by show (msg P).length < _; omega)
 simpa [YD, msg] using this
theorem Tj {L : List Int} (hb : ∀ x, x ∈ L → 0 ≤ x ∧ x ≤ 255) (hl : L.length ≤ 1000000) : ((YD L).1 = [] ∧ (YD L).2.2 ≠ 0) ∨ (∃ P, YD L = (P, 0, 0) ∧ msg P = L ∧ ∀ f, f ∈ P → Vf f) := by
 rcases Ce (L.length + 1) [] 0 L hb hl (by omega) with ⟨e, j, h, he, -⟩ | ⟨G, h, hm, hv⟩
 ·left
  unfold YD
  rw [h]
  exact ⟨rfl, he⟩
 ·right
  exact ⟨G, by unfold YD; rw [h]; simp, hm, hv⟩
theorem qw (P : List Zp) : 2 * P.length ≤ (msg P).length := by
 induction P with
 | nil => simp [msg]
 | cons f r ih =>
  have := UW f
  rw [SN, List.length_append, List.length_cons]
  omega
def Yw (k : Int) : List Zp → ByteArray × List Zp
 | [] => (Vr, [])
 | f :: r => if f.num = k ∧ f.kind = 2 ∧ f.bytes.length ≠ 0 then (strOfNums f.bytes, r) else (Vr, f :: r)
def YM (k : Int) : List Zp → Int × List Zp
 | [] => (0, [])
 | f :: r => if f.num = k ∧ f.kind = 0 ∧ f.val ≠ 0 then (f.val, r) else (0, f :: r)
def VB (f : Zp) : Option Tf :=
 if f.kind = 2 ∧ f.num = 6 ∧ (YD f.bytes).2.2 = 0 ∧ (YM 2 (Yw 1 (YD f.bytes).1).2).2.length = 0 then some ((Yw 1 (YD f.bytes).1).1, (YM 2 (Yw 1 (YD f.bytes).1).2).1) else none
def Ur : List Zp → Option (List Tf)
 | [] => some []
 | f :: r => match VB f with
  | none => none
  | some x => (Ur r).map (x :: ·)
def yh (l : List Zp) : Option Zf :=
 (Ur (Yw 5 (YM 4 (YM 3 (YM 2 (Yw 1 l).2).2).2).2).2).map fun A =>
  ⟨(Yw 1 l).1, (YM 2 (Yw 1 l).2).1, (YM 3 (YM 2 (Yw 1 l).2).2).1, (YM 4 (YM 3 (YM 2 (Yw 1 l).2).2).2).1, (Yw 5 (YM 4 (YM 3 (YM 2 (Yw 1 l).2).2).2).2).1, A⟩
theorem Td {k : Int} {f : Zp} {r : List Zp} (h : f.num = k ∧ f.kind = 2 ∧ f.bytes.length ≠ 0) : Yw k (f :: r) = (strOfNums f.bytes, r) := if_pos h
theorem UJ {k : Int} {f : Zp} {r : List Zp} (h : ¬ (f.num = k ∧ f.kind = 2 ∧ f.bytes.length ≠ 0)) : Yw k (f :: r) = (Vr, f :: r) := if_neg h
theorem U6 {k : Int} {f : Zp} {r : List Zp} (h : f.num = k ∧ f.kind = 0 ∧ f.val ≠ 0) : YM k (f :: r) = (f.val, r) := if_pos h
theorem VD {k : Int} {f : Zp} {r : List Zp} (h : ¬ (f.num = k ∧ f.kind = 0 ∧ f.val ≠ 0)) : YM k (f :: r) = (0, f :: r) := if_neg h
theorem Cc {L : List Int} (h : L.length ≠ 0) (hb : ∀ x, x ∈ L → 0 ≤ x ∧ x ≤ 255) : (strOfNums L).size ≠ 0 := by
 rw [← Zx, Lc L (fun x hx => hb x hx)]
 exact h
theorem UF (k : Int) (l : List Zp) (h : ∀ f, f ∈ l → Vf f) : l = tF k (Yw k l).1 ++ (Yw k l).2 := by
 cases l with
 | nil => rfl
 | cons f r =>
  by_cases hc : f.num = k ∧ f.kind = 2 ∧ f.bytes.length ≠ 0
  ·rw [Td hc]
   obtain ⟨h1, h2, h3⟩ := hc
   have hv := h f (by simp)
   have hb := hv.2.2.1
   simp only
   rw [Qr (Cc h3 hb), Lc _ (fun x hx => hb x hx)]
   have hval : f.val = 0 := by
    rcases hv.1.2.2 with a | a
    ·omega
    ·exact a.2
   obtain ⟨n, kd, v, b⟩ := f
   simp only at h1 h2 hval
   subst h1 h2 hval
   rfl
  ·rw [UJ hc]; rfl
theorem VY (k : Int) (l : List Zp) (h : ∀ f, f ∈ l → Vf f) : l = nF k (YM k l).1 ++ (YM k l).2 := by
 cases l with
 | nil => rfl
 | cons f r =>
  by_cases hc : f.num = k ∧ f.kind = 0 ∧ f.val ≠ 0
  ·rw [U6 hc]
   obtain ⟨h1, h2, h3⟩ := hc
   have hv := h f (by simp)
   have hz : f.bytes = [] := by
    rcases hv.1.2.2 with a | a
    ·exact List.eq_nil_of_length_eq_zero a.2
    ·omega
   simp only
   rw [Qq h3]
   obtain ⟨n, kd, v, b⟩ := f
   simp only at h1 h2 hz
   subst h1 h2 hz
   rfl
  ·rw [VD hc]; rfl
theorem Vz {k : Int} {l : List Zp} (h : ∀ f, f ∈ l → Vf f) : ∀ f, f ∈ (Yw k l).2 → Vf f := fun f hf => h f (by rw [UF k l h]; exact List.mem_append_right _ hf)
theorem UH {k : Int} {l : List Zp} (h : ∀ f, f ∈ l → Vf f) : ∀ f, f ∈ (YM k l).2 → Vf f := fun f hf => h f (by rw [VY k l h]; exact List.mem_append_right _ hf)
theorem NC {k : Int} {l : List Zp} (h : ∀ f, f ∈ l → Vf f) : W64 (YM k l).1 := by
 cases l with
 | nil => exact X0
 | cons f r =>
  by_cases hc : f.num = k ∧ f.kind = 0 ∧ f.val ≠ 0
  ·rw [U6 hc]; exact (h f (by simp)).2.1
  ·rw [VD hc]; exact X0
theorem FP {f : Zp} (hv : Vf f) {x : Tf} (h : VB f = some x) : f = VZ x ∧ W64 x.2 := by
 unfold VB at h
 split at h
 ·rename_i hc
  obtain ⟨h1, h2, h3, h4⟩ := hc
  simp only [Option.some.injEq] at h
  have hb := hv.2.2.1
  rcases Tj hb hv.2.2.2 with ⟨-, q⟩ | ⟨P, e, hm, hP⟩
  ·exact absurd h3 q
  ·rw [e] at h h4
   simp only at h h4
   have a := UF 1 P hP
   have b := VY 2 _ (Vz (k := 1) hP)
   rw [List.eq_nil_of_length_eq_zero h4, List.append_nil] at b
   rw [b] at a
   have hw := NC (k := 2) (Vz (k := 1) hP)
   subst h
   refine ⟨?_, hw⟩
   have hval : f.val = 0 := by
    rcases hv.1.2.2 with q | q
    ·omega
    ·exact q.2
   obtain ⟨n, kd, v, bs⟩ := f
   simp only at h1 h2 hval hm
   subst h1 h2 hval
   unfold VZ Ti
   rw [← hm]
   congr 1
   exact congrArg msg a
 ·cases h
theorem O4 : ∀ {l : List Zp} (hv : ∀ f, f ∈ l → Vf f) {A : List Tf}, Ur l = some A → l = A.map VZ ∧ ∀ x, x ∈ A → W64 x.2
 | [], _, A, h => by
  simp only [Ur, Option.some.injEq] at h
  subst h
  exact ⟨rfl, fun x hx => by cases hx⟩
 | f :: r, hv, A, h => by
  unfold Ur at h
  cases e : VB f with
  | none => rw [e] at h; cases h
  | some x =>
   rw [e] at h
   simp only [Option.map_eq_some_iff] at h
   obtain ⟨B, hB, rfl⟩ := h
   obtain ⟨e1, w1⟩ := FP (hv f (by simp)) e
   obtain ⟨e2, w2⟩ := O4 (fun g hg => hv g (by simp [hg])) hB
   refine ⟨by rw [List.map_cons, ← e1, ← e2], fun y hy => ?_⟩
   rcases List.mem_cons.1 hy with rfl | hy
   ·exact w1
   ·exact w2 y hy
theorem Lr {l : List Zp} (hv : ∀ f, f ∈ l → Vf f) {t : Zf} (h : yh l = some t) : l = JZ t ∧ W64 t.sq ∧ W64 t.Zk ∧ W64 t.Y6 ∧ ∀ x, x ∈ t.tr → W64 x.2 := by
 unfold yh at h
 simp only [Option.map_eq_some_iff] at h
 obtain ⟨A, hA, rfl⟩ := h
 have v1 := Vz (k := 1) hv
 have v2 := UH (k := 2) v1
 have v3 := UH (k := 3) v2
 have v4 := UH (k := 4) v3
 have v5 := Vz (k := 5) v4
 obtain ⟨e6, w6⟩ := O4 v5 hA
 refine ⟨?_, NC v1, NC v2, NC v3, w6⟩
 unfold JZ
 simp only
 rw [← e6, ← UF 5 _ v4, ← VY 4 _ v3, ← VY 3 _ v2, ← VY 2 _ v1, ← UF 1 _ hv]
def xH (k : Int) (l : List Zp) : Prop := ∀ f, f ∈ l → k < f.num
theorem RU {k : Int} {s : ByteArray} {r : List Zp} (h : xH k r) : Yw k (tF k s ++ r) = (s, r) := by
 by_cases h0 : s.size = 0
 ·rw [Hq h0, iy h0]
  cases r with
  | nil => rfl
  | cons f r =>
   have := h f (by simp)
   exact UJ (by omega)
 ·rw [Qr h0, List.singleton_append, Td (f := ⟨k, 2, 0, nums s⟩) ⟨rfl, rfl, by show (nums s).length ≠ 0; rw [Zx]; exact h0⟩]
  show (strOfNums (nums s), r) = _
  rw [Qu]
theorem UE {k v : Int} {r : List Zp} (h : xH k r) : YM k (nF k v ++ r) = (v, r) := by
 by_cases h0 : v = 0
 ·subst h0
  rw [Ho]
  cases r with
  | nil => rfl
  | cons f r =>
   have := h f (by simp)
   exact VD (by omega)
 ·rw [Qq h0, List.singleton_append, U6 (f := ⟨k, 0, v, []⟩) ⟨rfl, rfl, h0⟩]
theorem xG {j k : Int} {s : ByteArray} {r : List Zp} (h : j < k) (hr : xH j r) : xH j (tF k s ++ r) := fun f hf => by
 rcases List.mem_append.1 hf with hf | hf
 ·by_cases h0 : s.size = 0
  ·rw [Hq h0] at hf; cases hf
  ·rw [Qr h0, List.mem_singleton] at hf
   subst hf
   exact h
 ·exact hr f hf
theorem Jm {j k v : Int} {r : List Zp} (h : j < k) (hr : xH j r) : xH j (nF k v ++ r) := fun f hf => by
 rcases List.mem_append.1 hf with hf | hf
 ·by_cases h0 : v = 0
  ·subst h0; rw [Ho] at hf; cases hf
  ·rw [Qq h0, List.mem_singleton] at hf
   subst hf
   exact h
 ·exact hr f hf
theorem SL {j : Int} (h : j < 6) (A : List Tf) : xH j (A.map VZ) := fun f hf => by
 obtain ⟨x, -, rfl⟩ := List.mem_map.1 hf
 exact h
theorem Cb (j : Int) : xH j [] := fun f hf => by cases hf
theorem xE {x : Tf} (hs : x.1.size ≤ 900000) (hv : W64 x.2) : YD (msg (Ti x)) = (Ti x, 0, 0) := by
 refine Le (Dn hs hv) ?_
 unfold Ti tF nF
 rw [List.length_append]
 split <;> split <;> simp
theorem xC {x : Tf} (hs : x.1.size ≤ 900000) (hv : W64 x.2) : VB (VZ x) = some x := by
 have e : (VZ x).bytes = msg (Ti x) := rfl
 unfold VB
 rw [e, xE hs hv]
 have a : Yw 1 (Ti x) = (x.1, nF 2 x.2) := by
  have q : xH 1 (nF 2 x.2) := by
   have := Jm (j := 1) (k := 2) (v := x.2) (by decide) (Cb 1)
   rwa [List.append_nil] at this
  exact RU q
 have b : YM 2 (nF 2 x.2) = (x.2, []) := by
  have := UE (k := 2) (v := x.2) (Cb 2)
  rwa [List.append_nil] at this
 simp only [a, b]
 rw [if_pos ⟨rfl, rfl, trivial, rfl⟩]
theorem La : ∀ (A : List Tf), (∀ x, x ∈ A → x.1.size ≤ 900000 ∧ W64 x.2) → Ur (A.map VZ) = some A
 | [], _ => rfl
 | x :: r, h => by
  have := h x (by simp)
  rw [List.map_cons, Ur, xC this.1 this.2, La r (fun y hy => h y (by simp [hy]))]
  rfl
theorem BZ {t : Zf} (h : Gz t) : yh (JZ t) = some t := by
 have g6 := SL (j := 5) (by decide) t.tr
 have e1 : Yw 1 (JZ t) = (t.snd, nF 2 t.sq ++ (nF 3 t.Zk ++ (nF 4 t.Y6 ++ (tF 5 t.memo ++ t.tr.map VZ)))) := RU (Jm (by decide) (Jm (by decide) (Jm (by decide) (xG (by decide) (SL (by decide) _)))))
 have e2 : YM 2 (nF 2 t.sq ++ (nF 3 t.Zk ++ (nF 4 t.Y6 ++ (tF 5 t.memo ++ t.tr.map VZ)))) = (t.sq, nF 3 t.Zk ++ (nF 4 t.Y6 ++ (tF 5 t.memo ++ t.tr.map VZ))) := UE (Jm (by decide) (Jm (by decide) (xG (by decide) (SL (by decide) _))))
 have e3 : YM 3 (nF 3 t.Zk ++ (nF 4 t.Y6 ++ (tF 5 t.memo ++ t.tr.map VZ))) = (t.Zk, nF 4 t.Y6 ++ (tF 5 t.memo ++ t.tr.map VZ)) := UE (Jm (by decide) (xG (by decide) (SL (by decide) _)))
 have e4 : YM 4 (nF 4 t.Y6 ++ (tF 5 t.memo ++ t.tr.map VZ)) = (t.Y6, tF 5 t.memo ++ t.tr.map VZ) := UE (xG (by decide) (SL (by decide) _))
 have e5 : Yw 5 (tF 5 t.memo ++ t.tr.map VZ) = (t.memo, t.tr.map VZ) := RU g6
 have e6 := La t.tr (fun x hx => by have := h.tr hx; exact ⟨by omega, this.2⟩)
 unfold yh
 simp only [e1, e2, e3, e4, e5, e6, Option.map_some]
def zX : Zf := ⟨Vr, 0, 0, 0, Vr, []⟩
structure Red (t : Zf) (n : Nat) : Prop where
 sq : W64 t.sq
 Zk : W64 t.Zk
 Y6 : W64 t.Y6
 am : ∀ x, x ∈ t.tr → W64 x.2
 wt : FV t ≤ 100 + n
def Zq (L : List Int) : Zf × Int :=
 if 4096 < L.length then (zX, 3) else if (YD L).2.2 ≠ 0 then (zX, 4) else match yh (YD L).1 with
 | none => (zX, 4)
 | some t => if X5 t = 0 then (t, 0) else (zX, X5 t)
def Rn (t : Zf) : List Int × Int := if X5 t ≠ 0 then ([], X5 t) else if 4096 < (form t).length then ([], 3) else (form t, 0)
theorem Jl {L : List Int} {t : Zf} (hb : ∀ x, x ∈ L → 0 ≤ x ∧ x ≤ 255) (h : Zq L = (t, 0)) : X5 t = 0 ∧ form t = L ∧ Gz t ∧ L.length ≤ 4096 := by
 unfold Zq at h
 split at h
 ·simp at h
 rename_i hlen
 split at h
 ·simp at h
 rename_i hfl
 have hfl : (YD L).2.2 = 0 := by simpa using hfl
 rcases Tj hb (by omega) with ⟨-, q⟩ | ⟨P, e0, hm, hP⟩
 ·exact absurd hfl q
 rw [e0] at h
 cases e : yh P with
 | none => simp [e] at h
 | some u =>
  simp only [e] at h
  split at h
  ·rename_i hval
   simp only [Prod.mk.injEq, and_true] at h
   subst h
   obtain ⟨h1, h2, h3, h4, h5⟩ := Lr hP e
   have hf : form u = L := by unfold form; rw [← h1]; exact hm
   refine ⟨hval, hf, ⟨h2, h3, h4, h5, ?_⟩, by omega⟩
   have := (QA u).2
   rw [hf] at this
   omega
  ·rename_i hval
   simp only [Prod.mk.injEq] at h
   exact absurd h.2 hval
theorem zo {t : Zf} (h : Gz t) (hv : X5 t = 0) (hl : (form t).length ≤ 4096) (hn : t.tr.length ≤ 1000) : Zq (form t) = (t, 0) := by
 have hc : (JZ t).length ≤ 1024 := by
  have q1 : ∀ k s, (tF k s).length ≤ 1 := fun k s => by unfold tF; split <;> simp
  have q2 : ∀ k v, (nF k v).length ≤ 1 := fun k s => by unfold nF; split <;> simp
  unfold JZ
  simp only [List.length_append, List.length_map]
  have a := q1 1 t.snd
  have b := q2 2 t.sq
  have c := q2 3 t.Zk
  have d := q2 4 t.Y6
  have e := q1 5 t.memo
  omega
 have e := Le h.vf hc
 unfold Zq
 rw [if_neg (by omega)]
 show (if (YD (msg (JZ t))).2.2 ≠ 0 then _ else _) = _
 unfold form
 rw [e, if_neg (by simp)]
 simp only [BZ h]
 rw [if_pos hv]
theorem DF {L : List Int} (h : 4096 < L.length) : Zq L = (zX, 3) := by unfold Zq; rw [if_pos h]
theorem Qp {L : List Int} (h : isName L = true) : L.length ≤ 20 := by
 unfold isName at h
 simp at h
 exact h.2.2
theorem KZ : ∀ (n i : Nat) (L : List Int) (m : Nat), L.length - i ≤ n → runs L i = some m → L.length ≤ i + 4 * m
 | 0, i, L, m, h, e => by omega
 | n + 1, i, L, m, h, e => by
  by_cases hi : i < L.length
  ·by_cases hk : runK L i = 0
   ·rw [KY hi hk] at e; cases e
   ·rw [O1 hi hk] at e
    simp only [Option.map_eq_some_iff] at e
    obtain ⟨q, hq, rfl⟩ := e
    have := KZ n (i + runK L i) L q (by omega) hq
    have := NH L i
    omega
  ·omega
theorem Jk {L : List Int} (h : YE L = true) : L.length ≤ 256 := by
 unfold YE at h
 cases e : runs L 0 with
 | none => rw [e] at h; cases h
 | some n =>
  rw [e] at h
  have := KZ L.length 0 L n (by omega) e
  have h2 : n ≤ 64 := by simpa using h
  omega
theorem KX : ∀ {A : List Tf}, VP A = 0 → ∀ x, x ∈ A → x.1.size ≤ 20
 | [], _, x, hx => by cases hx
 | y :: r, h, x, hx => by
  unfold VP at h
  split at h
  ·omega
  rename_i hn
  split at h
  ·omega
  rcases List.mem_cons.1 hx with rfl | hx
  ·have := Qp (by simpa using hn : isName (nums x.1) = true)
   rwa [Zx] at this
  ·exact KX h x hx
theorem BX : ∀ (A : List Tf) (k : Nat), (∀ x, x ∈ A → x.1.size ≤ k) → Hl A ≤ A.length * (60 + k)
 | [], k, _ => by simp [Hl]
 | x :: r, k, h => by
  have a := BX r k (fun y hy => h y (by simp [hy]))
  have b := h x (by simp)
  rw [Hl, List.length_cons, Nat.add_mul]
  omega
theorem val_ok {t : Zf} (h : X5 t = 0) (h1 : W64 t.sq) (h2 : W64 t.Zk) (h3 : W64 t.Y6) (h4 : ∀ x, x ∈ t.tr → W64 x.2) : Gz t ∧ FV t ≤ 2000 ∧ t.tr.length ≤ 16 := by
 unfold X5 at h
 split at h
 ·omega
 rename_i a1
 split at h
 ·omega
 split at h
 ·omega
 rename_i a3
 split at h
 ·omega
 rename_i a4
 have b1 := Qp (by simpa using a1 : isName (nums t.snd) = true)
 have b2 := Jk (by simpa using a3 : YE (nums t.memo) = true)
 rw [Zx] at b1 b2
 have b3 := BX t.tr 20 (KX h)
 have b4 : t.tr.length * 80 ≤ 16 * 80 := Nat.mul_le_mul_right _ (by omega)
 have : FV t ≤ 2000 := by unfold FV; omega
 exact ⟨⟨h1, h2, h3, h4, by omega⟩, this, by omega⟩
end Go.Proofs.Ytnhlpahoomcgnaa
namespace Go.Proofs.Ytnhlpahoomcgnaa
attribute [local irreducible] wpList wpQuiet
open Go.RowKit
theorem CO (c : Int) (w : World) : Calls Try.prog 49 #[.int .u8 c] w fun e w' => e = .returned (.bool (Uh c)) ∧ w = w' := by
 have hcl : (97 ≤ c ∧ c ≤ 122) ∨ (48 ≤ c ∧ c ≤ 57) ∨ c = 45 ∨ 122 < c ∨ (57 < c ∧ c < 97) ∨ (c < 48 ∧ c ≠ 45) := by omega
 rcases hcl with hc | hc | hc | hc | hc | hc
 ·have HE : Uh c = true := by
   simp only [Uh, Bool.or_eq_true, Bool.and_eq_true, decide_eq_true_eq]; omega
  rw [HE]
  go_enter Try.func49, Try.ntmps49
  go_upto_region 1 with fail
  refine wl <| ZV (.int .u8 c) <| ZM (Yf rfl (97) (c) dT) <| ZG Z4 (.int .u8 c) <| ZM (Yf rfl (c) (122) dT) <|
   YX Z4 Z4 undef undef undef undef <| YX undef undef Z4 Z4 undef undef <| ZG Z4 Z4 <| wn ?_
  simp only [pu]
  go_wp2_with fail
  go_ret
  exact ⟨rfl, rfl⟩
 ·have HE : Uh c = true := by
   simp only [Uh, Bool.or_eq_true, Bool.and_eq_true, decide_eq_true_eq]; omega
  rw [HE]
  go_enter Try.func49, Try.ntmps49
  go_upto_region 1 with fail
  refine wl <| ZV (.int .u8 c) <| ZM (Yf rfl (97) (c) dF) <| YX ZY undef undef ZY ZY (.int .u8 c) <|
   ZM (Yf rfl (48) (c) dT) <| ZG Z4 (.int .u8 c) <| ZM (Yf rfl (c) (57) dT) <|
   YX Z4 Z4 Z4 undef undef Z4 <| ZV Z4 <| wn ?_
  simp only [pu]
  go_wp2_with fail
  go_ret
  exact ⟨rfl, rfl⟩
 ·have HE : Uh c = true := by
   simp only [Uh, Bool.or_eq_true, Bool.and_eq_true, decide_eq_true_eq]; omega
  rw [HE]
  go_enter Try.func49, Try.ntmps49
  go_upto_region 1 with fail
  refine wl <| ZV (.int .u8 c) <| ZM (Yf rfl (97) (c) dF) <| YX ZY undef undef ZY ZY (.int .u8 c) <|
   ZM (Yf rfl (48) (c) dF) <| YX ZY undef undef ZY ZY ZY <| ZV (.int .u8 c) <|
   ZM (Yz rfl (c) (45) dT) <| ZG Z4 Z4 <| wn ?_
  simp only [pu]
  go_wp2_with fail
  go_ret
  exact ⟨rfl, rfl⟩
 ·have HE : Uh c = false := by
   rw [Bool.eq_false_iff]; simp only [ne_eq, Uh, Bool.or_eq_true, Bool.and_eq_true, decide_eq_true_eq]; omega
  rw [HE]
  go_enter Try.func49, Try.ntmps49
  go_upto_region 1 with fail
  refine wl <| ZV (.int .u8 c) <| ZM (Yf rfl (97) (c) dT) <| ZG Z4 (.int .u8 c) <| ZM (Yf rfl (c) (122) dF) <|
   YT ZY ZY (.int .u8 c) <| ZM (Yf rfl (48) (c) dT) <| ZG Z4 (.int .u8 c) <| ZM (Yf rfl (c) (57) dF) <|
   Xl ZY ZY ZY (.int .u8 c) <| ZM (Yz rfl (c) (45) dF) <| ZG ZY ZY <| wn ?_
  simp only [pu]
  go_wp2_with fail
  go_ret
  exact ⟨rfl, rfl⟩
 ·have HE : Uh c = false := by
   rw [Bool.eq_false_iff]; simp only [ne_eq, Uh, Bool.or_eq_true, Bool.and_eq_true, decide_eq_true_eq]; omega
  rw [HE]
  go_enter Try.func49, Try.ntmps49
  go_upto_region 1 with fail
  refine wl <| ZV (.int .u8 c) <| ZM (Yf rfl (97) (c) dF) <| YX ZY undef undef ZY ZY (.int .u8 c) <|
   ZM (Yf rfl (48) (c) dT) <| ZG Z4 (.int .u8 c) <| ZM (Yf rfl (c) (57) dF) <|
   Xl ZY ZY ZY (.int .u8 c) <| ZM (Yz rfl (c) (45) dF) <| ZG ZY ZY <| wn ?_
  simp only [pu]
  go_wp2_with fail
  go_ret
  exact ⟨rfl, rfl⟩
 ·have HE : Uh c = false := by
   rw [Bool.eq_false_iff]; simp only [ne_eq, Uh, Bool.or_eq_true, Bool.and_eq_true, decide_eq_true_eq]; omega
  rw [HE]
  go_enter Try.func49, Try.ntmps49
  go_upto_region 1 with fail
  refine wl <| ZV (.int .u8 c) <| ZM (Yf rfl (97) (c) dF) <| YX ZY undef undef ZY ZY (.int .u8 c) <|
   ZM (Yf rfl (48) (c) dF) <| YX ZY undef undef ZY ZY ZY <| ZV (.int .u8 c) <|
   ZM (Yz rfl (c) (45) dF) <| ZG ZY ZY <| wn ?_
  simp only [pu]
  go_wp2_with fail
  go_ret
  exact ⟨rfl, rfl⟩
theorem pG (b off n c k : Nat) (hk : k < n) (V : World) (ρ : Operand → Value) (o : Oper) {x y : Operand} (ho : o.op = .indexAddr 50 x y) (hx : ρ x = .slice (some ⟨b, off, none⟩) n c) (hy : ρ y = Z8 k) : (execOp ρ o).run Try.prog V = .ok (.value (Z5 b (off + k))) V := by
 have hs : (sizeOf (Try.prog.elem 50)).run Try.prog V = .ok 1 V := by kernel_rfl
 have hlm : (k : Int) < (n : Int) := by omega
 unfold execOp
 simp only [ho, hx, hy]
 go_simp
theorem FT {s : ByteArray} (h : s.size = 0 ∨ 20 < s.size) : isName (nums s) = false := by
 unfold isName
 rw [Zx]
 rcases h with h | h
 ·rw [h]; simp
 ·rw [show decide (s.size ≤ 20) = false from decide_eq_false (by omega)]; simp
theorem Vg (s : ByteArray) (w : World) : Calls Try.prog 31 #[.string s] w fun e w' => e = .returned (.bool (isName (nums s))) ∧ Below w.heap.size w w' := by
 have O5 := Z9 (@FT s)
 obtain ⟨n, hn⟩ := ZR s.size
 rw [hn] at O5
 rcases (show n = 0 ∨ 20 < n ∨ (1 ≤ n ∧ n ≤ 20) by omega) with hc | hc | hc
 ·rw [O5.out (.inl hc)]
  clear O5
  go_enter Try.func31, Try.ntmps31
  go_upto_region 1 with fail
  refine wl <| ZV (.string s) <| YO (Z8 n) (by rw [← hn]; kernel_rfl) <| ZM (ZC rfl (n) (1) dT) <| Sz Z4 undef undef undef Z4 <| wn ?_
  simp only [pu]
  go_upto_region 2 with fail
  refine wl <| ZV ZY <| wn ?_
  simp only [pu]
  go_wp2_with fail
  go_ret
  exact ⟨rfl, Below.refl _ _⟩
 ·rw [O5.out (.inr hc)]
  clear O5
  go_enter Try.func31, Try.ntmps31
  go_upto_region 1 with fail
  refine wl <| ZV (.string s) <| YO (Z8 n) (by rw [← hn]; kernel_rfl) <| ZM (ZC rfl (n) (1) dF) <| ZG ZY (.string s) <| YO (Z8 n) (by rw [← hn]; kernel_rfl) <|
   ZM (Zl rfl (n) (20) dT) <| ZV Z4 <| wn ?_
  simp only [pu]
  go_upto_region 2 with fail
  refine wl <| ZV ZY <| wn ?_
  simp only [pu]
  go_wp2_with fail
  go_ret
  exact ⟨rfl, Below.refl _ _⟩
 ·obtain ⟨hbw, hsl, hsz⟩ := Qs w s (grownCap w s.size 0 5)
  have CV := fun (ρ : Operand → Value) (o : Oper) (x : Operand) ho hx => Cm (ρ := ρ) (o := o) (x := x) ho s hx w
  generalize grownCap w s.size 0 5 = d at *
  generalize Lib.bytesWorld w 5 s = W at *
  obtain ⟨q, hq⟩ := ZR w.heap.size
  have HB := Z9 hbw
  rw [hq] at CV hsl
  rw [hn] at CV
  have HL := Z9 (Zx s)
  obtain ⟨L, hL⟩ := ZR (nums s)
  rw [hL] at HL hsl ⊢
  have HS := Z9 hsl
  have FU := Z9 (fun i (h : i < L.length) => Cj h)
  have Ci := Z9 (@Hr L)
  clear hbw hsl hsz O5 hL
  go_enter Try.func31, Try.ntmps31
  go_upto_region 1 with fail
  refine wl <| ZV (.string s) <| YO (Z8 n) (by rw [← hn]; kernel_rfl) <| ZM (ZC rfl (n) (1) dF) <| ZG ZY (.string s) <| YO (Z8 n) (by rw [← hn]; kernel_rfl) <|
   ZM (Zl rfl (n) (20) dF) <| ZV ZY <| wn ?_
  simp only [pu]
  go_upto_region 3 with fail
  refine wl <| ZV (.string s) ?_
  simp only [pu]
  refine UZ (by kernel_rfl) (some 14) rfl (.slice (some ⟨q, 0, none⟩) n d) W (CV _ _ _ rfl (by kernel_rfl)) ?_
  simp only [pu]
  refine ZG (Z8 n) (Z8 0) <| wn ?_
  simp only [pu]
  clear CV
  go_wp2_with fail
  go_loopg [16] n (fun gg s16 wx => ∃ i : Nat, s16 = Z8 i ∧ i ≤ n ∧ (∀ j, j < i → Uh (L.getD j 0) = true) ∧ wx = W ∧ n - i = gg)
  case atStart => exact ⟨0, rfl, by omega, fun j hj => by omega, rfl, by omega⟩
  case round =>
   obtain ⟨i, rfl, hi, hyes, rfl, hg⟩ := hrel
   by_cases hlt : i < n
   ·have HG : Hid (n - (i + 1) = gk - 1 ∧ 0 < gk ∧ i + 1 ≤ n) := Z9 ⟨by omega, by omega, by omega⟩
    have hil : i < L.length := by rw [HL.out, hn]; omega
    obtain ⟨b, off, e1, -, hcell⟩ := tC HS.out hil
    simp only [Option.some.injEq, Addr.mk.injEq, and_true] at e1
    obtain ⟨rfl, rfl⟩ := e1
    have hno := FU.out i hil
    obtain ⟨c, hc⟩ := ZR (L.getD i 0)
    rw [hc] at hcell hno
    have NI : Hid (Uh c = true → ∀ j, j < i + 1 → Uh (L.getD j 0) = true) := Z9 fun hb j hj => by
     by_cases e : j = i
     ·rw [e, hc]; exact hb
     ·exact hyes j (by omega)
    have bP : Hid (Uh c = false → isName L = false) := Z9 hno
    have CI := CO c wr
    clear hc hyes hg hno hil
    generalize Uh c = tb at *
    go_upto_region 4 with fail
    refine wl <| ZM (ZC rfl (i) (n) dT) <| wn ?_
    simp only [pu]
    go_upto_region 5 with fail
    refine wl <| YO (Z5 q (0 + i)) (pG q 0 n d i hlt _ _ _ rfl (by kernel_rfl) (by kernel_rfl)) <| ZI rfl ⟨q, 0 + i, none⟩ (.int .u8 c) (YV hcell (by kernel_rfl)) <| ZV (.int .u8 c) <| wn ?_
    simp only [pu]
    go_upto_region 6 with fail
    cases tb
    ·refine wl <| ZV (.int .u8 c) <| Y2 ZY (fun w' => wr = w') (CI) (fun V9 XQ => ?_)
     subst XQ
     simp only [pu]
     refine ZV Z4 <| wn ?_
     simp only [pu]
     have HE := Z9 (bP.out rfl)
     clear bP NI CI hcell
     go_upto_region 7 with fail
     refine wl <| ZV ZY <| wn ?_
     simp only [pu]
     go_wp2_with fail
     go_ret
     rw [HE.out]
     exact ⟨rfl, HB.out⟩
    ·refine wl <| ZV (.int .u8 c) <| Y2 Z4 (fun w' => wr = w') (CI) (fun V9 XQ => ?_)
     subst XQ
     simp only [pu]
     refine ZV ZY <| wn ?_
     simp only [pu]
     have pF := Z9 (NI.out rfl)
     clear bP NI CI hcell
     go_upto_region 8 with fail
     refine wl <| YN (Z8 (i + 1 : Nat)) (ZK rfl i 1 (by omega)) <| ZV (Z8 (i + 1 : Nat)) <| wn ?_
     simp only [pu]
     go_wp2_with fail
     go_roundg (gk - 1)
     case measure => have := HG.out; omega
     case rel => exact ⟨i + 1, rfl, HG.out.2.2, pF.out, rfl, HG.out.1⟩
   ·have hall := Ci.out (fun j hj => hyes j (by rw [HL.out, hn] at hj; omega))
    have HV : Hid (isName L = true) := Z9 (by unfold isName; rw [hall, HL.out, hn, decide_eq_true hc.1, decide_eq_true hc.2]; rfl)
    clear hyes hall hg FU Ci
    go_upto_region 4 with fail
    refine wl <| ZM (ZC rfl (i) (n) dF) <| wn ?_
    simp only [pu]
    go_upto_region 9 with fail
    refine wl <| ZV Z4 <| wn ?_
    simp only [pu]
    go_wp2_with fail
    go_ret
    rw [HV.out]
    exact ⟨rfl, HB.out⟩
theorem pK (T : ByteArray) (h : Nat) (hh : h ≤ T.size) (w : World) : (Instr.slice 9 (.string T) none (some (Z8 (h : Int))) none).run Try.prog w = .ok (.string (T.extract 0 h)) w := by
 simp [Instr.slice, run_underlying Try.underlying9, Instr.sliceBounds, Instr.sliceBound, asIntOf, go_sem]
 intro h'
 omega
theorem Dk (T : ByteArray) (l : Nat) (hl : l ≤ T.size) (w : World) : (Instr.slice 9 (.string T) (some (Z8 (l : Int))) none none).run Try.prog w = .ok (.string (T.extract l T.size)) w := by
 simp [Instr.slice, run_underlying Try.underlying9, Instr.sliceBounds, Instr.sliceBound, asIntOf, go_sem]
 intro h'
 omega
theorem SQ (s : ByteArray) (a b : Nat) : nums (s.extract a b) = ((nums s).drop a).take (b - a) := by
 unfold nums
 rw [ByteArray.data_extract, Array.toList_extract, List.extract_eq_take_drop, List.map_take, List.map_drop]
theorem Dj {a b : ByteArray} (h : nums a = nums b) : a = b := by rw [← Qu a, h, Qu]
theorem Di (a b : ByteArray) : (a == b) = decide (nums a = nums b) := by
 by_cases h : nums a = nums b
 ·rw [decide_eq_true h, Dj h, beq_toListBytes]
  simp
 ·rw [decide_eq_false h, Bool.eq_false_iff]
  intro e
  rw [beq_toListBytes] at e
  have e2 := eq_of_beq e
  rw [ByteArray.toList_eq, ByteArray.toList_eq] at e2
  exact h (by unfold nums; rw [e2])
def hpr (s p : ByteArray) : Bool := decide (p.size ≤ s.size) && (s.extract 0 p.size == p)
theorem pJ (s p : ByteArray) (w : World) (h1 : s.size ≤ 140737488355328) (h2 : p.size ≤ 140737488355328) : Calls Try.prog 98 #[.string s, .string p] w fun e w' => e = .returned (.bool (hpr s p)) ∧ w = w' := by
 unfold hpr
 have HX := fun (h : p.size ≤ s.size) => pK s p.size h w
 obtain ⟨n, hn⟩ := ZR s.size
 obtain ⟨m, hm⟩ := ZR p.size
 rw [hn, hm] at HX ⊢
 by_cases hc : m ≤ n
 ·have hx := HX hc
  rw [decide_eq_true hc, Bool.true_and]
  generalize s.extract 0 m = u at *
  obtain ⟨tb, ht⟩ := ZR ((u == p))
  rw [ht]
  clear HX
  go_enter Try.func98, Try.ntmps98
  go_upto_region 1 with fail
  refine wl <| ZV (.string s) <| YO (Z8 n) (by rw [← hn]; kernel_rfl) <| ZV (.string p) <| YO (Z8 m) (by rw [← hm]; kernel_rfl) <| ZM (Uj rfl (n) (m) dT) <|
   YT Z4 (.string s) (.string p) <| YO (Z8 m) (by rw [← hm]; kernel_rfl) ?_
  simp only [pu]
  refine Lj (by kernel_rfl) (some 14) rfl 9 (.tmp 11) (.tmp 13) rfl (.string s) (Z8 m) (.string u) (by kernel_rfl) (by kernel_rfl) hx ?_
  simp only [pu]
  refine ZV (.string p) <| YN (.bool tb) (Ui rfl u p ht) <| ZG (.bool tb) (.bool tb) <| wn ?_
  simp only [pu]
  go_wp2_with fail
  go_ret
  exact ⟨rfl, rfl⟩
 ·rw [decide_eq_false hc, Bool.false_and]
  clear HX
  go_enter Try.func98, Try.ntmps98
  go_upto_region 1 with fail
  refine wl <| ZV (.string s) <| YO (Z8 n) (by rw [← hn]; kernel_rfl) <| ZV (.string p) <| YO (Z8 m) (by rw [← hm]; kernel_rfl) <| ZM (Uj rfl (n) (m) dF) <|
   YX ZY undef undef undef undef undef <| YT undef ZY ZY <| wn ?_
  simp only [pu]
  go_wp2_with fail
  go_ret
  exact ⟨rfl, rfl⟩
theorem Dh (s p : ByteArray) (w : World) (h1 : s.size ≤ 140737488355328) (h2 : p.size ≤ 140737488355328) : Calls Try.prog 93 #[.string s, .string p] w fun e w' => e = .returned (.bool (hpr s p)) ∧ w = w' := by
 have CL := pJ s p w h1 h2
 generalize hpr s p = tb at *
 go_enter Try.func93, Try.ntmps93
 go_upto_region 1 with fail
 refine wl <| ZG (.string s) (.string p) <| Y2 (.bool tb) (fun w' => w = w') (CL) (fun V9 XQ => ?_)
 subst XQ
 simp only [pu]
 refine ZV (.bool tb) <| wn ?_
 simp only [pu]
 go_wp2_with fail
 go_ret
 exact ⟨rfl, rfl⟩
def Jr : ByteArray := ⟨#[239, 191, 189]⟩
theorem take3 (L : List Int) (i : Nat) (h : i + 3 ≤ L.length) : (L.drop i).take 3 = [L.getD i 0, L.getD (i + 1) 0, L.getD (i + 2) 0] := by
 rw [List.drop_eq_getElem_cons (by omega), List.take_succ_cons, List.drop_eq_getElem_cons (by omega), List.take_succ_cons, List.drop_eq_getElem_cons (by omega), List.take_succ_cons, List.take_zero]
 simp [List.getD_eq_getElem?_getD, List.getElem?_eq_getElem (show i < L.length by omega), List.getElem?_eq_getElem (show i + 1 < L.length by omega), List.getElem?_eq_getElem (show i + 2 < L.length by omega)]
theorem Ht (s : ByteArray) (i : Nat) (hi : i ≤ s.size) : hpr (s.extract i s.size) Jr = decide (i + 3 ≤ s.size ∧ (nums s).getD i 0 = 239 ∧ (nums s).getD (i + 1) 0 = 191 ∧ (nums s).getD (i + 2) 0 = 189) := by
 have e1 : (s.extract i s.size).size = s.size - i := by rw [← Zx, SQ, List.length_take, List.length_drop, Zx]; omega
 have e2 : Jr.size = 3 := rfl
 have e3 : nums Jr = [239, 191, 189] := by decide +kernel
 unfold hpr
 rw [e1, e2, Di, e3, SQ, SQ, List.drop_zero]
 by_cases h : i + 3 ≤ s.size
 ·rw [decide_eq_true (show 3 ≤ s.size - i by omega), Bool.true_and]
  have e4 : ((((nums s).drop i).take (s.size - i)).take (3 - 0)) = [(nums s).getD i 0, (nums s).getD (i + 1) 0, (nums s).getD (i + 2) 0] := by
   rw [List.take_take, show min (3 - 0) (s.size - i) = 3 by omega]
   exact take3 _ _ (by rw [Zx]; exact h)
  rw [e4, decide_eq_decide]
  simp [h]
 ·rw [decide_eq_false (show ¬ 3 ≤ s.size - i by omega), Bool.false_and, eq_comm]
  exact decide_eq_false (fun q => h q.1)
theorem getD_byte (s : ByteArray) (j : Nat) : 0 ≤ (nums s).getD j 0 ∧ (nums s).getD j 0 < 256 := by
 rw [WQ]
 have := (s.get! j).toNat_lt
 omega
theorem xP (s : ByteArray) (i : Nat) (hi : i < s.size) (hk : runK (nums s) i ≠ 0) (hv : NM (nums s) i = 65533) : hpr (s.extract i s.size) Jr = true := by
 rw [Ht s i (by omega)]
 have h3 := Df (getD_byte s) hk hv
 have hl := NK (L := nums s) (i := i) (by rw [Zx]; exact hi)
 rw [h3, Zx] at hl
 have h0 := getD_byte s i
 have h1 := getD_byte s (i + 1)
 have h2 := getD_byte s (i + 2)
 have hr := h3
 unfold runK runN at hr
 unfold NM at hv
 rw [h3] at hv
 have e : ((nums s).getD i 0 - 224) * 4096 + ((nums s).getD (i + 1) 0 - 128) * 64 + ((nums s).getD (i + 2) 0 - 128) = 65533 := hv
 refine decide_eq_true ⟨hl, ?_⟩
 have f1 : QO (nums s) (i + 1) = true ∧ QO (nums s) (i + 2) = true := by
  split at hr
  ·omega
  split at hr
  ·omega
  split at hr
  ·rename_i q
   exact ⟨q.1.2, q.2⟩
  split at hr
  ·split at hr <;> omega
  ·omega
 have g1 := Yc f1.1
 have g2 := Yc f1.2
 omega
theorem pI (s : ByteArray) (i : Nat) (hi : i < s.size) (hk : runK (nums s) i = 0) : hpr (s.extract i s.size) Jr = false := by
 rw [Ht s i (by omega)]
 refine decide_eq_false fun ⟨hl, e0, e1, e2⟩ => ?_
 have f1 : QO (nums s) (i + 1) = true := by
  unfold QO
  rw [e1, Zx, decide_eq_true (show i + 1 < s.size by omega)]
  rfl
 have f2 : QO (nums s) (i + 2) = true := by
  unfold QO
  rw [e2, Zx, decide_eq_true (show i + 2 < s.size by omega)]
  rfl
 unfold runK runN at hk
 rw [e0, e1, f1, f2] at hk
 simp at hk
theorem NJ (w : World) (s : ByteArray) (pos : Nat) (ty : TypeId) (h : pos < s.size) :
  (Instr.next (Z5 w.heap.size 0) true ty).run Try.prog (w.iter s pos) =
   .ok (.tuple #[Z4, Z8 pos, .int .i32 (Utf8.decode s pos).1]) (w.iter s (pos + (Utf8.decode s pos).2)) := by
 simp only [Instr.next, getObj, setObj, Sem.run_bind, Sem.run, World.iter_heap, Result.andThen, h, if_true, World.iter_set]
 simp [goInt, Sem.run, World.iter_heap, World.iter_set]
theorem xO {ρ : Operand → Value} {o : Oper} {x : Operand} (ho : o.op = .next x true) (w : World) (s : ByteArray) (pos : Nat) (h : pos < s.size) (hx : ρ x = Z5 w.heap.size 0) :
  (execOp ρ o).run Try.prog (w.iter s pos) = .ok (.value (.tuple #[Z4, Z8 pos, .int .i32 (Utf8.decode s pos).1])) (w.iter s (pos + (Utf8.decode s pos).2)) := by
 unfold execOp
 simp only [ho, hx, Sem.run_bind, NJ w s pos _ h]
 rfl
theorem xM {ρ : Operand → Value} {o : Oper} {x : Operand} (ho : o.op = .next x true) (w : World) (s : ByteArray) (pos : Nat) (h : ¬ pos < s.size) (hx : ρ x = Z5 w.heap.size 0) :
  (execOp ρ o).run Try.prog (w.iter s pos) = .ok (.value (.tuple #[ZY])) (w.iter s pos) := by
 unfold execOp
 simp only [ho, hx, Sem.run_bind, run_next_end w s pos _ h]
 rfl
theorem Dc {ρ : Operand → Value} {o : Oper} {x : Operand} (ho : o.op = .range 9 x) (w : World) (s : ByteArray) (hx : ρ x = .string s) :
  (execOp ρ o).run Try.prog w = .ok (.value (Z5 w.heap.size 0)) (w.iter s 0) := by
 unfold execOp
 simp only [ho, hx, Sem.run_bind, run_range_string w _ s Try.underlying9]
 rfl
theorem C9 {ρ : Operand → Value} {o : Oper} {x y : Operand} (ho : o.op = .binOp .eql 21 x y 21) (a b : Int) {t : Bool} (ht : decide (a = b) = t) (hx : ρ x = .int .i32 a) (hy : ρ y = .int .i32 b) (w : World) : (execOp ρ o).run Try.prog w = .ok (.value (.bool t)) w := by
 have e : (a == b) = t := ht
 unfold execOp
 simp only [ho, hx, hy]
 go_simp
theorem CZ {L : List Int} {i m : Nat} (h : Ran L i m) (hm : 64 < m) : YE L = false := by
 unfold YE Ran at *
 rw [h]
 cases runs L i with
 | none => rfl
 | some k =>
  show decide (k + m ≤ 64) = false
  exact decide_eq_false (by omega)
theorem CY {L : List Int} (h : runs L 0 = none) : YE L = false := by unfold YE; rw [h]
theorem H7 {L : List Int} {m : Nat} (h : runs L 0 = some m) (hm : m ≤ 64) : YE L = true := by unfold YE; rw [h]; exact decide_eq_true hm
theorem Jq (w : World) (s : ByteArray) (i : Nat) : Below w.heap.size w (w.iter s i) := (Below.refl _ w).alloc (Nat.le_refl _) _
theorem ext_size (s : ByteArray) (i : Nat) : (s.extract i s.size).size = s.size - i := by rw [← Zx, SQ, List.length_take, List.length_drop, Zx]; omega
theorem Dl (s : ByteArray) (w : World) (hl : s.size ≤ 140737488355328) : Calls Try.prog 86 #[.string s] w fun e w' => e = .returned (.bool (YE (nums s))) ∧ Below w.heap.size w w' := by
 have pV := Z9 (fun (ρ : Operand → Value) (o : Oper) (x : Operand) ho hx => Dc (ρ := ρ) (o := o) (x := x) ho w s hx)
 have lZ := Z9 (fun (ρ : Operand → Value) (o : Oper) (x : Operand) ho i h hx => xM (ρ := ρ) (o := o) (x := x) ho w s i h hx)
 have lY := Z9 (fun (ρ : Operand → Value) (o : Oper) (x : Operand) ho i h hx => xO (ρ := ρ) (o := o) (x := x) ho w s i h hx)
 have bU := Z9 (xK s)
 have NI := Z9 (xP s)
 have O5 := Z9 (pI s)
 have bT := Z9 (fun i V => Dh (s.extract i s.size) Jr V (by rw [ext_size]; omega) (by decide))
 have bQ := Z9 (fun i (h : i ≤ s.size) V => Dk s i h V)
 have HL := Z9 (Zx s)
 have HB := Z9 (Jq w s)
 obtain ⟨L, hL⟩ := ZR (nums s)
 rw [hL] at bU NI O5 HL ⊢
 have HR0 := Z9 (Ran.zero L)
 obtain ⟨r, hr⟩ := ZR (YE L)
 have ER := Z9 hr
 rw [hr]
 clear hL hr
 obtain ⟨n, hn⟩ := ZR s.size
 have HN := Z9 hn
 rw [hn] at hl NI O5 HL lZ lY bT bQ
 obtain ⟨WI, hWI⟩ : ∃ WI : Nat → World, (fun i => w.iter s i) = WI := ⟨_, rfl⟩
 have HWI : ∀ i, w.iter s i = WI i := fun i => congrFun hWI i
 simp only [HWI] at pV lZ lY HB
 obtain ⟨q, hq⟩ := ZR w.heap.size
 have HQ := Z9 hq
 rw [hq] at pV lZ lY
 clear hq hn hWI HWI
 go_enter Try.func86, Try.ntmps86
 go_upto_region 1 with fail
 refine wl <| ZV (Z8 0) <| wn ?_
 simp only [pu]
 go_upto_region 2 with fail
 refine wl <| ZV (.string s) ?_
 simp only [pu]
 refine UZ (by kernel_rfl) (some 7) rfl (Z5 q 0) (WI 0) (pV.out _ _ _ rfl (by kernel_rfl)) ?_
 simp only [pu]
 apply wpList_nil
 clear pV
 go_wp2_with fail
 go_loopg [3] n (fun gg s3 wx => ∃ i m : Nat, s3 = Z8 m ∧ i ≤ n ∧ m ≤ 64 ∧ Hid (Ran L i m) ∧ wx = WI i ∧ n - i ≤ gg)
 case atStart => exact ⟨0, 0, rfl, by omega, by omega, HR0, rfl, by omega⟩
 case round =>
  obtain ⟨i, m, rfl, hi, hm, HM, rfl, hg⟩ := hrel
  clear HR0
  by_cases hlt : i < n
  ·have hk4 := NH L i
   have hkl := NK (L := L) (i := i) (by rw [HL.out]; omega)
   have HST := Z9 (HM.out.step (by rw [HL.out]; omega))
   have JB := Z9 (HM.out.bad (by rw [HL.out]; omega))
   rw [HL.out] at hkl
   have hdc := bU.out i
   have hys := NI.out i hlt
   have hno := O5.out i hlt
   have hcp := bT.out i
   have hsf := bQ.out i hi
   have hnx := fun ρ o x ho hx => lY.out ρ o x ho i hlt hx
   obtain ⟨d1, hd1⟩ : ∃ d1 : Int, ((Utf8.decode s i).1 : Int) = d1 := ⟨_, rfl⟩
   rw [hd1] at hdc hnx
   generalize (Utf8.decode s i).2 = d2 at *
   generalize runK L i = k at *
   generalize NM L i = v at *
   generalize hpr (s.extract i n) Jr = hb at *
   generalize s.extract i n = u at *
   clear HM bU NI O5 bT bQ lY lZ hd1
   obtain ⟨CQ, Lh⟩ := hdc
   go_upto_region 3 with fail
   by_cases hk : k = 0
   ·rw [if_pos hk] at Lh CQ
    have iD := hno hk
    have HE : Hid (r = false) := Z9 (by rw [← ER.out]; exact CY (JB.out hk))
    have HB2 := Z9 (HB.out (i + d2))
    clear hys hno HST JB ER HB hk hkl hk4 CQ hg
    apply wp_region_lit
    refine UZ (by kernel_rfl) (some 8) rfl (.tuple #[Z4, Z8 i, .int .i32 d1]) (WI (i + d2)) (hnx _ _ _ rfl (by kernel_rfl)) ?_
    simp only [pu]
    refine ZV Z4 <| wn ?_
    simp only [pu]
    clear hnx
    go_upto_region 4 with fail
    refine wl <| Xl (Z8 i) (.int .i32 d1) (Z8 i) (.int .i32 d1) <| wn ?_
    simp only [pu]
    have CP := hcp (WI (i + d2))
    rw [iD] at CP
    clear hcp iD
    go_upto_region 5 with fail
    refine wl <| ZV (.int .i32 d1) <| ZM (C9 rfl (d1) (65533) (decide_eq_true (Lh))) <| YT Z4 (.string s) (Z8 i) ?_
    simp only [pu]
    refine Rt (by kernel_rfl) (some 17) rfl 9 (.tmp 15) (.tmp 16) rfl (.string s) (Z8 i) (.string u) (by kernel_rfl) (by kernel_rfl) (hsf _) ?_
    simp only [pu]
    refine Y2 ZY (fun w' => WI (i + d2) = w') (CP) (fun V9 XQ => ?_)
    subst XQ
    simp only [pu]
    refine ZG Z4 Z4 <| wn ?_
    simp only [pu]
    clear CP hsf
    go_upto_region 6 with fail
    refine wl <| ZV ZY <| wn ?_
    simp only [pu]
    go_wp2_with fail
    go_ret
    rw [HE.out]
    exact ⟨rfl, HB2.out⟩
   ·rw [if_neg hk] at Lh CQ
    have HS2 := Z9 (HST.out hk)
    have LX : Hid (64 < m + 1 → r = false) := Z9 fun h => by rw [← ER.out]; exact CZ HS2.out h
    have HB2 := Z9 (HB.out (i + d2))
    have HG : Hid (0 < k ∧ i + k ≤ n ∧ i < n ∧ n - i ≤ gk ∧ d2 = k) := Z9 ⟨by omega, hkl, hlt, hg, CQ⟩
    clear hno HST JB hkl hk4 CQ hg
    apply wp_region_lit
    refine UZ (by kernel_rfl) (some 8) rfl (.tuple #[Z4, Z8 i, .int .i32 d1]) (WI (i + d2)) (hnx _ _ _ rfl (by kernel_rfl)) ?_
    simp only [pu]
    refine ZV Z4 <| wn ?_
    simp only [pu]
    clear hnx
    go_upto_region 4 with fail
    refine wl <| Xl (Z8 i) (.int .i32 d1) (Z8 i) (.int .i32 d1) <| wn ?_
    simp only [pu]
    go_upto_region 5 with fail
    by_cases hv : v = 65533
    ·have iD := hys hk hv
     rw [hv] at Lh
     have CP := hcp (WI (i + d2))
     rw [iD] at CP
     clear hcp iD hys hv hk
     refine wl <| ZV (.int .i32 d1) <| ZM (C9 rfl (d1) (65533) (decide_eq_true (Lh))) <| YT Z4 (.string s) (Z8 i) ?_
     simp only [pu]
     refine Rt (by kernel_rfl) (some 17) rfl 9 (.tmp 15) (.tmp 16) rfl (.string s) (Z8 i) (.string u) (by kernel_rfl) (by kernel_rfl) (hsf _) ?_
     simp only [pu]
     refine Y2 Z4 (fun w' => WI (i + d2) = w') (CP) (fun V9 XQ => ?_)
     subst XQ
     simp only [pu]
     refine ZG ZY ZY <| wn ?_
     simp only [pu]
     clear CP hsf Lh
     have HD2 := Z9 HG.out.2.2.2.2
     go_upto_region 7 with fail
     refine wl <| ZV (Z8 m) <| YN (Z8 (m + 1 : Nat)) (ZK rfl m 1 (by omega)) <| ZV (Z8 (m + 1 : Nat)) <| wn ?_
     simp only [pu]
     go_upto_region 8 with fail
     by_cases hm2 : 64 < m + 1
     ·have HE := Z9 (LX.out hm2)
      clear LX ER HB
      refine wl <| ZV (Z8 (m + 1 : Nat)) <| ZM (Zl rfl ((m + 1 : Nat)) (64) dT) <| wn ?_
      simp only [pu]
      go_upto_region 9 with fail
      refine wl <| ZV ZY <| wn ?_
      simp only [pu]
      go_wp2_with fail
      go_ret
      rw [HE.out]
      exact ⟨rfl, HB2.out⟩
     ·clear LX
      refine wl <| ZV (Z8 (m + 1 : Nat)) <| ZM (Zl rfl ((m + 1 : Nat)) (64) dF) <| wn ?_
      simp only [pu]
      go_wp2_with fail
      go_roundg (n - (i + k))
      case measure => have := HG.out; omega
      case rel => exact ⟨i + k, m + 1, rfl, HG.out.2.1, by omega, HS2, by rw [HD2.out], Nat.le_refl _⟩
    ·have iC : ¬ d1 = 65533 := by rw [Lh]; exact hv
     clear hcp hys Lh hsf hv hk
     refine wl <| ZV (.int .i32 d1) <| ZM (C9 rfl (d1) (65533) (decide_eq_false (iC))) <| YX ZY undef undef undef undef undef <| ZV ZY <| wn ?_
     simp only [pu]
     clear iC
     have HD2 := Z9 HG.out.2.2.2.2
     go_upto_region 7 with fail
     refine wl <| ZV (Z8 m) <| YN (Z8 (m + 1 : Nat)) (ZK rfl m 1 (by omega)) <| ZV (Z8 (m + 1 : Nat)) <| wn ?_
     simp only [pu]
     go_upto_region 8 with fail
     by_cases hm2 : 64 < m + 1
     ·have HE := Z9 (LX.out hm2)
      clear LX ER HB
      refine wl <| ZV (Z8 (m + 1 : Nat)) <| ZM (Zl rfl ((m + 1 : Nat)) (64) dT) <| wn ?_
      simp only [pu]
      go_upto_region 9 with fail
      refine wl <| ZV ZY <| wn ?_
      simp only [pu]
      go_wp2_with fail
      go_ret
      rw [HE.out]
      exact ⟨rfl, HB2.out⟩
     ·clear LX
      refine wl <| ZV (Z8 (m + 1 : Nat)) <| ZM (Zl rfl ((m + 1 : Nat)) (64) dF) <| wn ?_
      simp only [pu]
      go_wp2_with fail
      go_roundg (n - (i + k))
      case measure => have := HG.out; omega
      case rel => exact ⟨i + k, m + 1, rfl, HG.out.2.1, by omega, HS2, by rw [HD2.out], Nat.le_refl _⟩
  ·have HE : Hid (r = true) := Z9 (by rw [← ER.out]; exact H7 (HM.out.done (by rw [HL.out]; omega)) hm)
   have HB2 := Z9 (HB.out i)
   have hov := fun ρ o x ho hx => lZ.out ρ o x ho i hlt hx
   clear HM ER HB hg lZ lY bU NI O5 bT bQ
   go_upto_region 3 with fail
   refine wl <| YO (.tuple #[ZY]) (hov _ _ _ rfl (by kernel_rfl)) <| ZV ZY <| wn ?_
   simp only [pu]
   go_upto_region 10 with fail
   refine wl <| ZV Z4 <| wn ?_
   simp only [pu]
   go_wp2_with fail
   go_ret
   rw [HE.out]
   exact ⟨rfl, HB2.out⟩
end Go.Proofs.Ytnhlpahoomcgnaa
