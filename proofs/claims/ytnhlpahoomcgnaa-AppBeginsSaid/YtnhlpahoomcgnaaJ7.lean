/-
  Texts PR PT joined.
-/
import Derived.Test.YtnhlpahoomcgnaaJ6
import Derived.Test.YtnhlpahoomcgnaaJ1
set_option maxRecDepth 100000
set_option maxHeartbeats 8000000
set_option linter.unusedSimpArgs false
set_option linter.unusedVariables false
namespace Go.Proofs.Ytnhlpahoomcgnaa
attribute [local irreducible] wpList wpQuiet
open Go.RowKit
structure Ri (w : World) (B : Nat) (a : Option Addr) (ps : List (Zp × Value)) : Prop where
 fs : Fs w a ps
 row : ∀ x, a = some x → ps ≠ [] → B ≤ x.block
 bZ : ∀ p, p ∈ ps → ∀ x n c, p.2 = .slice (some x) n c → p.1.bytes ≠ [] → B ≤ x.block
 cap : ∀ p, p ∈ ps → ∀ x n c, p.2 = .slice x n c → n ≤ c
theorem Ri.below {w w' : World} {B : Nat} {a : Option Addr} {ps : List (Zp × Value)} (h : Ri w B a ps) (hb : Below w.heap.size w w') : Ri w' B a ps := ⟨h.fs.below hb, h.row, h.bZ, h.cap⟩
theorem pR {w w' : World} {g : Nat} {a : Option Addr} {c : Nat} {L : List Int} (h : Sl w a c L) (hb : But g w w') (hn : L ≠ [] → ∀ x, a = some x → x.block ≠ g) : Sl w' a c L := by
 rcases h with h | ⟨x, rfl, hx⟩
 ·exact .inl h
 ·refine .inr ⟨x, rfl, fun k hk => ?_⟩
  obtain ⟨b, off, rfl, hc⟩ := hx k hk
  have hne : b ≠ g := hn (by intro e; rw [e] at hk; simp at hk) _ rfl
  exact ⟨b, off, rfl, (World.cell?_of_block (a := ⟨b, off + k, none⟩) (hb.2 b (World.block_lt_of_cell? w _ hc) hne)).trans hc⟩
theorem xZ {w w' : World} {g b o : Nat} {num kind val : Int} {s : Option Addr} {n d : Nat} (h : Box w b o num kind val s n d) (hb : But g w w') (hn : b ≠ g) : Box w' b o num kind val s n d := by
 obtain ⟨h0, h1, h2, h3⟩ := h
 have key : ∀ q v, w.cell? ⟨b, q, none⟩ = some v → w'.cell? ⟨b, q, none⟩ = some v := fun q v hq => (World.cell?_of_block (a := ⟨b, q, none⟩) (hb.2 b (World.block_lt_of_cell? w _ hq) hn)).trans hq
 exact ⟨key _ _ h0, key _ _ h1, key _ _ h2, key _ _ h3⟩
theorem Ri.but {w w' : World} {B g : Nat} {a : Option Addr} {ps : List (Zp × Value)} (h : Ri w B a ps) (hb : But g w w') (hg : g < B) : Ri w' B a ps := by
 refine ⟨fun i p hp => ?_, h.row, h.bZ, h.cap⟩
 obtain ⟨b, off, ba, bc, rfl, h2, hs, hx⟩ := h.fs i p hp
 have hm := List.mem_of_getElem? hp
 have h1 := h.row _ rfl (by intro e; rw [e] at hm; cases hm)
 refine ⟨b, off, ba, bc, rfl, h2, pR hs hb (fun hne x hx => ?_), xZ hx hb (by have : B ≤ b := h1; omega)⟩
 subst hx
 have := h.bZ p hm x _ _ h2 hne
 omega
theorem Ri.nil (w : World) (B : Nat) (a : Option Addr) : Ri w B a [] := ⟨fun i p h => by simp at h, fun x _ h => absurd rfl h, fun p h => (by cases h), fun p h => (by cases h)⟩
theorem Ri.tail {w : World} {B : Nat} {a : Option Addr} {p : Zp × Value} {r : List (Zp × Value)} (h : Ri w B a (p :: r)) (c : Nat) (hc : (p :: r).length ≤ c) : Ri w B (Zc 4 a c 1) r := by
 cases r with
 | nil => exact Ri.nil _ _ _
 | cons q r =>
  have hc1 : ¬ c = 1 := by simp at hc; omega
  obtain ⟨b, off, ba, bc, rfl, -⟩ := h.fs 0 p rfl
  have e : Zc 4 (some ⟨b, off, none⟩) c 1 = some ⟨b, off + 4, none⟩ := by
   unfold Zc
   rw [if_neg hc1]
   simp only [Option.map_some]
   rw [Addr.add_mid]
  rw [e]
  refine ⟨fun i p2 hp => ?_, fun x hx _ => ?_, fun p2 hp => h.bZ p2 (by simp [hp]), fun p2 hp => h.cap p2 (by simp [hp])⟩
  ·obtain ⟨b2, off2, ba2, bc2, e2, h2, hs, hx⟩ := h.fs (i + 1) p2 (by simpa using hp)
   simp only [Option.some.injEq, Addr.mk.injEq, and_true] at e2
   obtain ⟨rfl, rfl⟩ := e2
   refine ⟨b, off + 4, ba2, bc2, rfl, h2, hs, ?_⟩
   rw [show off + 4 + i * 4 = off + (i + 1) * 4 by omega]
   exact hx
  ·cases hx
   exact h.row ⟨b, off, none⟩ rfl (by simp)
theorem Wx.fsb {w : World} {B : Nat} {v : Value} {ps : List (Zp × Value)} (h : Wx w B v ps) : ∃ a c, v = .slice a ps.length c ∧ ps.length ≤ c ∧ Ri w B a ps := by
 obtain ⟨a, c, rfl, hc, hf⟩ := h.fs
 refine ⟨a, c, rfl, hc, hf, fun x hx hn => ?_, fun p hp x n d e hn => ?_, fun p hp x n d e => ?_⟩
 ·have h0 : 0 < ps.length := List.length_pos_iff.2 hn
  obtain ⟨g, rfl, hg, -⟩ := VI h.1 h0
  cases hx
  exact hg
 ·have ho := h.2 p hp
  rw [e] at ho
  obtain ⟨a2, c2, e2, -, -⟩ := ho.sl
  simp only [Value.slice.injEq] at e2
  have h0 : 0 < p.1.bytes.length := List.length_pos_iff.2 hn
  unfold Own at ho
  rw [e2.2.1] at ho
  obtain ⟨g, hx, hg, -⟩ := VI ho h0
  cases hx
  exact hg
 ·have ho := h.2 p hp
  rw [e] at ho
  obtain ⟨a2, c2, e2, -, hle⟩ := ho.sl
  simp only [Value.slice.injEq] at e2
  omega
def Rh (x : Zp) (b : Option Addr) (d : Nat) : Value := if x.kind = 0 then .iface 23 (Z7 x.val) else .iface 50 (.slice b x.bytes.length d)
theorem NR (x : Zp) (b : Option Addr) (d : Nat) (w : World) : Calls Try.prog 92 #[.agg (Yh x b d)] w fun e w' => e = .returned (Rh x b d) ∧ Below w.heap.size w w' := by
 have hb0 : Below w.heap.size w (w.alloc (.cells (Yh x b d) 99)) := (Below.refl _ w).alloc (Nat.le_refl _) _
 have hX0 : Bx (w.alloc (.cells (Yh x b d) 99)) w.heap.size (Yh x b d) 99 := heap_alloc_last w _
 have HB0 := Z9 hb0
 have HV1 : Hid (x.kind = 0 → Rh x b d = .iface 23 (Z7 x.val)) := Z9 fun h => if_pos h
 have HV2 : Hid (x.kind ≠ 0 → Rh x b d = .iface 50 (.slice b x.bytes.length d)) := Z9 fun h => if_neg h
 generalize Rh x b d = vv at *
 go_enter Try.func92, Try.ntmps92
 go_upto_region 1 with fail
 change Code.wp _ _ _ _ (w.alloc (.cells (Yh x b d) 99))
 generalize w.alloc (.cells (Yh x b d) 99) = W at *
 obtain ⟨g0, hg0⟩ := ZR w.heap.size
 rw [hg0] at hX0
 simp only [hg0]
 clear hb0 hg0
 by_cases hk : x.kind = 0
 ·have HE := Z9 (HV1.out hk)
  clear HV1 HV2
  refine wl <| ZV (Z5 g0 1) <| ZI rfl ⟨g0, 1, none⟩ (Z8 x.kind) (hX0.ZN 1) <| ZM (RV rfl x.kind (decide_eq_true hk)) <| wn ?_
  simp only [pu]
  go_upto_region 2 with fail
  refine wl <| ZV (Z5 g0 2) <| ZI rfl ⟨g0, 2, none⟩ (Z7 x.val) (hX0.ZN 2) <| ZG (.iface 23 (Z7 x.val)) (.iface 23 (Z7 x.val)) <| wn ?_
  simp only [pu]
  go_wp2_with fail
  go_ret
  rw [HE.out]
  exact ⟨rfl, HB0.out⟩
 ·have HE := Z9 (HV2.out hk)
  clear HV1 HV2
  refine wl <| ZV (Z5 g0 1) <| ZI rfl ⟨g0, 1, none⟩ (Z8 x.kind) (hX0.ZN 1) <| ZM (RV rfl x.kind (decide_eq_false hk)) <| wn ?_
  simp only [pu]
  go_upto_region 3 with fail
  refine wl <| ZV (Z5 g0 3) <| ZI rfl ⟨g0, 3, none⟩ (.slice b x.bytes.length d) (hX0.ZN 3) <| ZG (.iface 50 (.slice b x.bytes.length d)) (.iface 50 (.slice b x.bytes.length d)) <| wn ?_
  simp only [pu]
  go_wp2_with fail
  go_ret
  rw [HE.out]
  exact ⟨rfl, HB0.out⟩
def Rf (w : World) (B : Nat) (X : Value) (ps : List (Zp × Value)) (rest : List Zp) (e : Ending) (w' : World) : Prop := ∃ a c qs, e = .returned (.tuple #[X, .slice a qs.length c]) ∧ Ri w' B a qs ∧ qs.length ≤ c ∧ qs.map Prod.fst = rest ∧ Below w.heap.size w w'
theorem Xv {ρ : Operand → Value} {o : Oper} {x y : Operand} (ho : o.op = .binOp .eql 3 x y 3) (a b : Int) {t : Bool} (ht : decide (a = b) = t) (hx : ρ x = Z8 a) (hy : ρ y = Z8 b) (w : World) : (execOp ρ o).run Try.prog w = .ok (.value (.bool t)) w := by
 have e : (a == b) = t := ht
 unfold execOp
 simp only [ho, hx, hy]
 go_simp
theorem Ei {ρ : Operand → Value} {o : Oper} {x y : Operand} (ho : o.op = .binOp .neq 3 x y 3) (a b : Int) {t : Bool} (ht : decide (a = b) = t) (hx : ρ x = Z8 a) (hy : ρ y = Z8 b) (w : World) : (execOp ρ o).run Try.prog w = .ok (.value (.bool (!t))) w := by
 have e : (a != b) = !t := by rw [← ht]; rfl
 unfold execOp
 simp only [ho, hx, hy]
 go_simp
theorem Dx {ρ : Operand → Value} {o : Oper} {x y : Operand} (ho : o.op = .binOp .gtr 23 x y 23) (a b : Int) {t : Bool} (ht : decide (b < a) = t) (hx : ρ x = Z7 a) (hy : ρ y = Z7 b) (w : World) : (execOp ρ o).run Try.prog w = .ok (.value (.bool t)) w := by
 rw [← ht]
 unfold execOp
 simp only [ho, hx, hy]
 go_simp
theorem pO {ρ : Operand → Value} {o : Oper} {x : Operand} (ho : o.op = .convert 50 9 x) {w : World} {a : Option Addr} {c : Nat} {L : List Int} (h : Sl w a c L) (hx : ρ x = .slice a L.length c) : (execOp ρ o).run Try.prog w = .ok (.value (.string (strOfNums L))) w := by
 have h2 := xY h
 unfold execOp
 simp only [ho, hx, Sem.run_bind, h2]
 rfl
theorem Jt (a : Option Addr) (n c k : Nat) (w : World) (h : k ≤ n) : (Instr.slice 94 (.slice a n c) (some (Z8 (k : Int))) none none).run Try.prog w = .ok (.slice (Zc 4 a c k) (n - k) (c - k)) w :=
 LP (s := 4) (by kernel_rfl) (fun w => by kernel_rfl) a n c k w h
theorem Ry (a : Option Addr) (n c : Nat) (w : World) (h : 0 < n) : (Instr.slice 94 (.slice a n c) (some (Z8 1)) none none).run Try.prog w = .ok (.slice (Zc 4 a c 1) (n - 1) (c - 1)) w := by
 have q := Jt a n c 1 w h
 have e : ((1 : Nat) : Int) = 1 := rfl
 rwa [e] at q
theorem Dw {ρ : Operand → Value} {o : Oper} {x : Operand} {a : Option Addr} {n c : Nat} {V : World} {v : Value} (ho : o.op = .slice 94 x (some (.const (Z8 1))) none none) (hx : ρ x = .slice a n c) (h : (Instr.slice 94 (.slice a n c) (some (Z8 1)) none none).run Try.prog V = .ok v V) (hc : ρ (.const (Z8 1)) = Z8 1) : (execOp ρ o).run Try.prog V = .ok (.value v) V := by
 have h2 : (Instr.sliceAt 94 (.slice a n c) (some (Z8 1)) none none).run Try.prog V = .ok v V := h
 unfold execOp
 simp only [ho, hx, Option.map_some, Option.map_none, hc, Sem.run_bind, h2]
 rfl
theorem Sl.iL {w : World} {a : Option Addr} {c : Nat} {L : List Int} (h : Sl w a c L) : Sl w.drew a c L := h
theorem TY (a : Option Addr) (c : Nat) (ps : List (Zp × Value)) (B : Nat) (k : Int) (w : World) (hF : Ri w B a ps) (hc : ps.length ≤ c) (hv : ∀ f, f ∈ ps.map Prod.fst → Vf f) :
  Calls Try.prog 83 #[.slice a ps.length c, Z8 k] w (Rf w B (.string (Yw k (ps.map Prod.fst)).1) ps (Yw k (ps.map Prod.fst)).2) := by
 cases ps with
 | nil =>
  have HE := Z9 (⟨a, c, [], rfl, hF, hc, rfl, Below.refl _ _⟩ : Rf w B (.string ⟨#[]⟩) [] [] (.returned (.tuple #[.string ⟨#[]⟩, .slice a 0 c])) w)
  clear hF hv
  change Calls _ _ #[.slice a 0 c, Z8 k] _ (Rf w B (.string ⟨#[]⟩) [] [])
  go_enter Try.func83, Try.ntmps83
  go_upto_region 1 with fail
  refine wl <| ZG (.slice a 0 c) (Z8 0) <| ZM (Zl rfl (0) (0) (decide_eq_false (by decide))) <| YX ZY undef undef undef undef undef <| ZG undef ZY <| wn ?_
  simp only [pu]
  go_upto_region 5 with fail
  refine wl <| YT (.slice a 0 c) (.string ⟨#[]⟩) (.slice a 0 c) <| wn ?_
  simp only [pu]
  go_wp2_with fail
  go_ret2
  exact HE.out
 | cons p r =>
  have hvp := hv p.1 (by simp)
  have Ro := hF
  obtain ⟨b, off, ba, bc, rfl, hp2, hsl, hbox⟩ := hF.fs 0 p rfl
  obtain ⟨n, hn⟩ := ZR ((p :: r).length)
  have hn0 : 0 < n := by rw [← hn]; simp
  have Lm : Hid (∀ w', Below w.heap.size w w' → Yw k ((p :: r).map Prod.fst) = (Vr, (p :: r).map Prod.fst) → Rf w B (.string (Yw k ((p :: r).map Prod.fst)).1) (p :: r) (Yw k ((p :: r).map Prod.fst)).2 (.returned (.tuple #[.string ⟨#[]⟩, .slice (some ⟨b, off, none⟩) n c])) w') := Z9 fun w' hb e => ⟨_, c, p :: r, by rw [hn, e]; rfl, Ro.below hb, hc, by rw [e], hb⟩
  have hTL : Hid (∀ w', Below w.heap.size w w' → Rf w B (.string (strOfNums p.1.bytes)) (p :: r) (r.map Prod.fst) (.returned (.tuple #[.string (strOfNums p.1.bytes), .slice (Zc 4 (some ⟨b, off, none⟩) c 1) (n - 1) (c - 1)])) w') := Z9 fun w' hb => ⟨_, c - 1, r, by rw [← hn]; rfl, (Ro.below hb).tail c hc, by simp at hc; omega, rfl, hb⟩
  have hcut := fun V => Ry (some ⟨b, off, none⟩) n c V hn0
  have CV := fun V => NR p.1 ba bc V
  rw [List.map_cons] at Lm ⊢
  rw [hn]
  obtain ⟨x, v⟩ := p
  simp only at *
  have hkd : x.kind = 0 ∨ x.kind = 2 := by
   rcases hvp.1.2.2 with q | q
   ·exact .inl q.1
   ·exact .inr q.1
  have hld := S9 (SY hbox)
  have hnum := hbox.1
  have hval := hvp.2.1
  generalize r.map Prod.fst = R at *
  clear hF Ro hv hvp hbox hp2 hn hc
  rcases (show x.num ≠ k ∨ (x.num = k ∧ x.kind = 0) ∨ (x.num = k ∧ x.kind = 2 ∧ 0 < x.bytes.length) ∨ (x.num = k ∧ x.kind = 2 ∧ ¬ (0 < x.bytes.length)) by omega) with hcs | hcs | hcs | hcs
  ·have hE : Yw k (x :: R) = (Vr, x :: R) := UJ (by intro q; omega)
   have Vo := Z9 (fun w' hb => Lm.out w' hb hE)
   clear Lm hTL hE
   go_enter Try.func83, Try.ntmps83
   go_upto_region 1 with fail
   refine wl <| ZG (.slice (some ⟨b, off, none⟩) n c) (Z8 n) <| ZM (Zl rfl (n) (0) dT) <| ZG Z4 (.slice (some ⟨b, off, none⟩) n c) <|
    YO (Z5 b (off + 0 * 4)) (Yi b off n c 0 hn0 _ _ _ rfl (by kernel_rfl) (by kernel_rfl)) <| ZV (Z5 b (off + 0 * 4)) <| ZI rfl ⟨b, off + 0 * 4, none⟩ (Z8 x.num) (YV hnum (by kernel_rfl)) <| ZV (Z8 k) <|
    ZM (Xv rfl (x.num) (k) (decide_eq_false (hcs))) <| ZV ZY <| wn ?_
   simp only [pu]
   have HE := Z9 (Vo.out w (Below.refl _ _))
   clear Vo
   go_upto_region 5 with fail
   refine wl <| YT (.slice (some ⟨b, off, none⟩) n c) (.string ⟨#[]⟩) (.slice (some ⟨b, off, none⟩) n c) <| wn ?_
   simp only [pu]
   go_wp2_with fail
   go_ret2
   exact HE.out
  ·have hE : Yw k (x :: R) = (Vr, x :: R) := UJ (by intro q; omega)
   have Vo := Z9 (fun w' hb => Lm.out w' hb hE)
   clear Lm hTL hE
   go_enter Try.func83, Try.ntmps83
   go_upto_region 1 with fail
   refine wl <| ZG (.slice (some ⟨b, off, none⟩) n c) (Z8 n) <| ZM (Zl rfl (n) (0) dT) <| ZG Z4 (.slice (some ⟨b, off, none⟩) n c) <|
    YO (Z5 b (off + 0 * 4)) (Yi b off n c 0 hn0 _ _ _ rfl (by kernel_rfl) (by kernel_rfl)) <| ZV (Z5 b (off + 0 * 4)) <| ZI rfl ⟨b, off + 0 * 4, none⟩ (Z8 x.num) (YV hnum (by kernel_rfl)) <| ZV (Z8 k) <|
    ZM (Xv rfl (x.num) (k) (decide_eq_true (hcs.1))) <| ZV Z4 <| wn ?_
   simp only [pu]
   have SS : Calls Try.prog 92 #[.agg (Yh x ba bc)] w fun e w' => e = .returned (.iface 23 (Z7 x.val)) ∧ Below w.heap.size w w' := (CV w).mono fun e w' q => ⟨by rw [q.1, Rh, if_pos (by omega)], q.2⟩
   clear CV
   go_upto_region 2 with fail
   refine wl <| ZV (.slice (some ⟨b, off, none⟩) n c) <| YO (Z5 b (off + 0 * 4)) (Yi b off n c 0 hn0 _ _ _ rfl (by kernel_rfl) (by kernel_rfl)) <| ZI rfl ⟨b, off + 0 * 4, none⟩ (.agg (Yh x ba bc)) (hld) <|
    Y2 (.iface 23 (Z7 x.val)) (fun w' => Below w.heap.size w w') SS (fun V hV => ?_)
   simp only [pu]
   refine YX (.tuple #[.slice none 0 0, ZY]) (.tuple #[.slice none 0 0, ZY]) (.slice none 0 0) ZY (.slice none 0 0) ZY <| wn ?_
   simp only [pu]
   have Dv := Z9 hV
   have zI := ZH hsl hV
   clear SS hV
   go_upto_region 3 with fail
   refine wl <| YX ZY ZY undef undef undef ZY <| wn ?_
   simp only [pu]
   have HE := Z9 (Vo.out V Dv.out)
   clear Vo
   go_upto_region 5 with fail
   refine wl <| YT (.slice (some ⟨b, off, none⟩) n c) (.string ⟨#[]⟩) (.slice (some ⟨b, off, none⟩) n c) <| wn ?_
   simp only [pu]
   go_wp2_with fail
   go_ret2
   exact HE.out
  ·have hE : Yw k (x :: R) = (strOfNums x.bytes, R) := Td ⟨hcs.1, hcs.2.1, by omega⟩
   have J4 : Hid (∀ w', Below w.heap.size w w' → Rf w B (.string (Yw k (x :: R)).1) ((x, v) :: r) (Yw k (x :: R)).2 (.returned (.tuple #[.string (strOfNums x.bytes), .slice (Zc 4 (some ⟨b, off, none⟩) c 1) (n - 1) (c - 1)])) w') := Z9 (by rw [hE]; exact hTL.out)
   clear Lm hTL hE
   go_enter Try.func83, Try.ntmps83
   go_upto_region 1 with fail
   refine wl <| ZG (.slice (some ⟨b, off, none⟩) n c) (Z8 n) <| ZM (Zl rfl (n) (0) dT) <| ZG Z4 (.slice (some ⟨b, off, none⟩) n c) <|
    YO (Z5 b (off + 0 * 4)) (Yi b off n c 0 hn0 _ _ _ rfl (by kernel_rfl) (by kernel_rfl)) <| ZV (Z5 b (off + 0 * 4)) <| ZI rfl ⟨b, off + 0 * 4, none⟩ (Z8 x.num) (YV hnum (by kernel_rfl)) <| ZV (Z8 k) <|
    ZM (Xv rfl (x.num) (k) (decide_eq_true (hcs.1))) <| ZV Z4 <| wn ?_
   simp only [pu]
   have SS : Calls Try.prog 92 #[.agg (Yh x ba bc)] w fun e w' => e = .returned (.iface 50 (.slice ba x.bytes.length bc)) ∧ Below w.heap.size w w' := (CV w).mono fun e w' q => ⟨by rw [q.1, Rh, if_neg (by omega)], q.2⟩
   clear CV
   go_upto_region 2 with fail
   refine wl <| ZV (.slice (some ⟨b, off, none⟩) n c) <| YO (Z5 b (off + 0 * 4)) (Yi b off n c 0 hn0 _ _ _ rfl (by kernel_rfl) (by kernel_rfl)) <| ZI rfl ⟨b, off + 0 * 4, none⟩ (.agg (Yh x ba bc)) (hld) <|
    Y2 (.iface 50 (.slice ba x.bytes.length bc)) (fun w' => Below w.heap.size w w') SS (fun V hV => ?_)
   simp only [pu]
   refine YX (.tuple #[.slice ba x.bytes.length bc, Z4]) (.tuple #[.slice ba x.bytes.length bc, Z4]) (.slice ba x.bytes.length bc) Z4 (.slice ba x.bytes.length bc) Z4 <| wn ?_
   simp only [pu]
   have Dv := Z9 hV
   have zI := ZH hsl hV
   clear SS hV
   go_upto_region 3 with fail
   refine wl <| Xl Z4 Z4 (.slice ba x.bytes.length bc) (Z8 x.bytes.length) <| ZM (Zl rfl (x.bytes.length) (0) dT) <| ZV Z4 <| wn ?_
   simp only [pu]
   have HE := Z9 (J4.out V.drew Dv.out.drew)
   clear J4 hcs
   go_upto_region 4 with fail
   refine ZF (C := fun U => U = V.drew) (by kernel_rfl) (by kernel_rfl) (rfl) ?_
   refine gy (.slice ba x.bytes.length bc) <| X3 (.string (strOfNums x.bytes)) (fun U hU => by rw [hU]; exact pO rfl (zI.iL) (by kernel_rfl)) <| gy (.slice (some ⟨b, off, none⟩) n c) <|
     X3 (.slice (Zc 4 (some ⟨b, off, none⟩) c 1) (n - 1) (c - 1)) (fun U hU => by rw [hU]; exact Dw rfl (by kernel_rfl) (hcut V.drew) (by kernel_rfl)) <| gy (.string (strOfNums x.bytes)) <| gy (.slice (Zc 4 (some ⟨b, off, none⟩) c 1) (n - 1) (c - 1)) ?_
   simp only [pu]
   apply wpQuiet_nil
   intro U hU
   subst hU
   go_wp2_with fail
   go_ret2
   exact HE.out
  ·have hE : Yw k (x :: R) = (Vr, x :: R) := UJ (by intro q; omega)
   have Vo := Z9 (fun w' hb => Lm.out w' hb hE)
   clear Lm hTL hE
   go_enter Try.func83, Try.ntmps83
   go_upto_region 1 with fail
   refine wl <| ZG (.slice (some ⟨b, off, none⟩) n c) (Z8 n) <| ZM (Zl rfl (n) (0) dT) <| ZG Z4 (.slice (some ⟨b, off, none⟩) n c) <|
    YO (Z5 b (off + 0 * 4)) (Yi b off n c 0 hn0 _ _ _ rfl (by kernel_rfl) (by kernel_rfl)) <| ZV (Z5 b (off + 0 * 4)) <| ZI rfl ⟨b, off + 0 * 4, none⟩ (Z8 x.num) (YV hnum (by kernel_rfl)) <| ZV (Z8 k) <|
    ZM (Xv rfl (x.num) (k) (decide_eq_true (hcs.1))) <| ZV Z4 <| wn ?_
   simp only [pu]
   have SS : Calls Try.prog 92 #[.agg (Yh x ba bc)] w fun e w' => e = .returned (.iface 50 (.slice ba x.bytes.length bc)) ∧ Below w.heap.size w w' := (CV w).mono fun e w' q => ⟨by rw [q.1, Rh, if_neg (by omega)], q.2⟩
   clear CV
   go_upto_region 2 with fail
   refine wl <| ZV (.slice (some ⟨b, off, none⟩) n c) <| YO (Z5 b (off + 0 * 4)) (Yi b off n c 0 hn0 _ _ _ rfl (by kernel_rfl) (by kernel_rfl)) <| ZI rfl ⟨b, off + 0 * 4, none⟩ (.agg (Yh x ba bc)) (hld) <|
    Y2 (.iface 50 (.slice ba x.bytes.length bc)) (fun w' => Below w.heap.size w w') SS (fun V hV => ?_)
   simp only [pu]
   refine YX (.tuple #[.slice ba x.bytes.length bc, Z4]) (.tuple #[.slice ba x.bytes.length bc, Z4]) (.slice ba x.bytes.length bc) Z4 (.slice ba x.bytes.length bc) Z4 <| wn ?_
   simp only [pu]
   have Dv := Z9 hV
   have zI := ZH hsl hV
   clear SS hV
   go_upto_region 3 with fail
   refine wl <| Xl Z4 Z4 (.slice ba x.bytes.length bc) (Z8 x.bytes.length) <| ZM (Zl rfl (x.bytes.length) (0) dF) <| ZV ZY <| wn ?_
   simp only [pu]
   have HE := Z9 (Vo.out V Dv.out)
   clear Vo
   go_upto_region 5 with fail
   refine wl <| YT (.slice (some ⟨b, off, none⟩) n c) (.string ⟨#[]⟩) (.slice (some ⟨b, off, none⟩) n c) <| wn ?_
   simp only [pu]
   go_wp2_with fail
   go_ret2
   exact HE.out
theorem Xa (a : Option Addr) (c : Nat) (ps : List (Zp × Value)) (B : Nat) (k : Int) (w : World) (hF : Ri w B a ps) (hc : ps.length ≤ c) (hv : ∀ f, f ∈ ps.map Prod.fst → Vf f) :
  Calls Try.prog 84 #[.slice a ps.length c, Z8 k] w (Rf w B (Z7 (YM k (ps.map Prod.fst)).1) ps (YM k (ps.map Prod.fst)).2) := by
 cases ps with
 | nil =>
  have HE := Z9 (⟨a, c, [], rfl, hF, hc, rfl, Below.refl _ _⟩ : Rf w B (Z7 0) [] [] (.returned (.tuple #[Z7 0, .slice a 0 c])) w)
  clear hF hv
  change Calls _ _ #[.slice a 0 c, Z8 k] _ (Rf w B (Z7 0) [] [])
  go_enter Try.func84, Try.ntmps84
  go_upto_region 1 with fail
  refine wl <| ZG (.slice a 0 c) (Z8 0) <| ZM (Zl rfl (0) (0) (decide_eq_false (by decide))) <| YX ZY undef undef undef undef undef <| ZG undef ZY <| wn ?_
  simp only [pu]
  go_upto_region 5 with fail
  refine wl <| YT (.slice a 0 c) (Z7 0) (.slice a 0 c) <| wn ?_
  simp only [pu]
  go_wp2_with fail
  go_ret2
  exact HE.out
 | cons p r =>
  have hvp := hv p.1 (by simp)
  have Ro := hF
  obtain ⟨b, off, ba, bc, rfl, hp2, hsl, hbox⟩ := hF.fs 0 p rfl
  obtain ⟨n, hn⟩ := ZR ((p :: r).length)
  have hn0 : 0 < n := by rw [← hn]; simp
  have Lm : Hid (∀ w', Below w.heap.size w w' → YM k ((p :: r).map Prod.fst) = (0, (p :: r).map Prod.fst) → Rf w B (Z7 (YM k ((p :: r).map Prod.fst)).1) (p :: r) (YM k ((p :: r).map Prod.fst)).2 (.returned (.tuple #[Z7 0, .slice (some ⟨b, off, none⟩) n c])) w') := Z9 fun w' hb e => ⟨_, c, p :: r, by rw [hn, e], Ro.below hb, hc, by rw [e], hb⟩
  have hTL : Hid (∀ w', Below w.heap.size w w' → Rf w B (Z7 p.1.val) (p :: r) (r.map Prod.fst) (.returned (.tuple #[Z7 p.1.val, .slice (Zc 4 (some ⟨b, off, none⟩) c 1) (n - 1) (c - 1)])) w') := Z9 fun w' hb => ⟨_, c - 1, r, by rw [← hn]; rfl, (Ro.below hb).tail c hc, by simp at hc; omega, rfl, hb⟩
  have hcut := fun V => Ry (some ⟨b, off, none⟩) n c V hn0
  have CV := fun V => NR p.1 ba bc V
  rw [List.map_cons] at Lm ⊢
  rw [hn]
  obtain ⟨x, v⟩ := p
  simp only at *
  have hkd : x.kind = 0 ∨ x.kind = 2 := by
   rcases hvp.1.2.2 with q | q
   ·exact .inl q.1
   ·exact .inr q.1
  have hld := S9 (SY hbox)
  have hnum := hbox.1
  have hval := hvp.2.1
  generalize r.map Prod.fst = R at *
  clear hF Ro hv hvp hbox hp2 hn hc
  rcases (show x.num ≠ k ∨ (x.num = k ∧ x.kind = 2) ∨ (x.num = k ∧ x.kind = 0 ∧ 0 < x.val) ∨ (x.num = k ∧ x.kind = 0 ∧ ¬ (0 < x.val)) by omega) with hcs | hcs | hcs | hcs
  ·have hE : YM k (x :: R) = (0, x :: R) := VD (by intro q; omega)
   have Vo := Z9 (fun w' hb => Lm.out w' hb hE)
   clear Lm hTL hE
   go_enter Try.func84, Try.ntmps84
   go_upto_region 1 with fail
   refine wl <| ZG (.slice (some ⟨b, off, none⟩) n c) (Z8 n) <| ZM (Zl rfl (n) (0) dT) <| ZG Z4 (.slice (some ⟨b, off, none⟩) n c) <|
    YO (Z5 b (off + 0 * 4)) (Yi b off n c 0 hn0 _ _ _ rfl (by kernel_rfl) (by kernel_rfl)) <| ZV (Z5 b (off + 0 * 4)) <| ZI rfl ⟨b, off + 0 * 4, none⟩ (Z8 x.num) (YV hnum (by kernel_rfl)) <| ZV (Z8 k) <|
    ZM (Xv rfl (x.num) (k) (decide_eq_false (hcs))) <| ZV ZY <| wn ?_
   simp only [pu]
   have HE := Z9 (Vo.out w (Below.refl _ _))
   clear Vo
   go_upto_region 5 with fail
   refine wl <| YT (.slice (some ⟨b, off, none⟩) n c) (Z7 0) (.slice (some ⟨b, off, none⟩) n c) <| wn ?_
   simp only [pu]
   go_wp2_with fail
   go_ret2
   exact HE.out
  ·have hE : YM k (x :: R) = (0, x :: R) := VD (by intro q; omega)
   have Vo := Z9 (fun w' hb => Lm.out w' hb hE)
   clear Lm hTL hE
   go_enter Try.func84, Try.ntmps84
   go_upto_region 1 with fail
   refine wl <| ZG (.slice (some ⟨b, off, none⟩) n c) (Z8 n) <| ZM (Zl rfl (n) (0) dT) <| ZG Z4 (.slice (some ⟨b, off, none⟩) n c) <|
    YO (Z5 b (off + 0 * 4)) (Yi b off n c 0 hn0 _ _ _ rfl (by kernel_rfl) (by kernel_rfl)) <| ZV (Z5 b (off + 0 * 4)) <| ZI rfl ⟨b, off + 0 * 4, none⟩ (Z8 x.num) (YV hnum (by kernel_rfl)) <| ZV (Z8 k) <|
    ZM (Xv rfl (x.num) (k) (decide_eq_true (hcs.1))) <| ZV Z4 <| wn ?_
   simp only [pu]
   have SS : Calls Try.prog 92 #[.agg (Yh x ba bc)] w fun e w' => e = .returned (.iface 50 (.slice ba x.bytes.length bc)) ∧ Below w.heap.size w w' := (CV w).mono fun e w' q => ⟨by rw [q.1, Rh, if_neg (by omega)], q.2⟩
   clear CV
   go_upto_region 2 with fail
   refine wl <| ZV (.slice (some ⟨b, off, none⟩) n c) <| YO (Z5 b (off + 0 * 4)) (Yi b off n c 0 hn0 _ _ _ rfl (by kernel_rfl) (by kernel_rfl)) <| ZI rfl ⟨b, off + 0 * 4, none⟩ (.agg (Yh x ba bc)) (hld) <|
    Y2 (.iface 50 (.slice ba x.bytes.length bc)) (fun w' => Below w.heap.size w w') SS (fun V hV => ?_)
   simp only [pu]
   refine YX (.tuple #[Z7 0, ZY]) (.tuple #[Z7 0, ZY]) (Z7 0) ZY (Z7 0) ZY <| wn ?_
   simp only [pu]
   have Dv := Z9 hV
   have zI := ZH hsl hV
   clear SS hV
   go_upto_region 3 with fail
   refine wl <| Sz ZY ZY undef undef ZY <| wn ?_
   simp only [pu]
   have HE := Z9 (Vo.out V Dv.out)
   clear Vo
   go_upto_region 5 with fail
   refine wl <| YT (.slice (some ⟨b, off, none⟩) n c) (Z7 0) (.slice (some ⟨b, off, none⟩) n c) <| wn ?_
   simp only [pu]
   go_wp2_with fail
   go_ret2
   exact HE.out
  ·have hE : YM k (x :: R) = (x.val, R) := U6 ⟨hcs.1, hcs.2.1, by omega⟩
   have J4 : Hid (∀ w', Below w.heap.size w w' → Rf w B (Z7 (YM k (x :: R)).1) ((x, v) :: r) (YM k (x :: R)).2 (.returned (.tuple #[Z7 x.val, .slice (Zc 4 (some ⟨b, off, none⟩) c 1) (n - 1) (c - 1)])) w') := Z9 (by rw [hE]; exact hTL.out)
   clear Lm hTL hE
   go_enter Try.func84, Try.ntmps84
   go_upto_region 1 with fail
   refine wl <| ZG (.slice (some ⟨b, off, none⟩) n c) (Z8 n) <| ZM (Zl rfl (n) (0) dT) <| ZG Z4 (.slice (some ⟨b, off, none⟩) n c) <|
    YO (Z5 b (off + 0 * 4)) (Yi b off n c 0 hn0 _ _ _ rfl (by kernel_rfl) (by kernel_rfl)) <| ZV (Z5 b (off + 0 * 4)) <| ZI rfl ⟨b, off + 0 * 4, none⟩ (Z8 x.num) (YV hnum (by kernel_rfl)) <| ZV (Z8 k) <|
    ZM (Xv rfl (x.num) (k) (decide_eq_true (hcs.1))) <| ZV Z4 <| wn ?_
   simp only [pu]
   have SS : Calls Try.prog 92 #[.agg (Yh x ba bc)] w fun e w' => e = .returned (.iface 23 (Z7 x.val)) ∧ Below w.heap.size w w' := (CV w).mono fun e w' q => ⟨by rw [q.1, Rh, if_pos (by omega)], q.2⟩
   clear CV
   go_upto_region 2 with fail
   refine wl <| ZV (.slice (some ⟨b, off, none⟩) n c) <| YO (Z5 b (off + 0 * 4)) (Yi b off n c 0 hn0 _ _ _ rfl (by kernel_rfl) (by kernel_rfl)) <| ZI rfl ⟨b, off + 0 * 4, none⟩ (.agg (Yh x ba bc)) (hld) <|
    Y2 (.iface 23 (Z7 x.val)) (fun w' => Below w.heap.size w w') SS (fun V hV => ?_)
   simp only [pu]
   refine YX (.tuple #[Z7 x.val, Z4]) (.tuple #[Z7 x.val, Z4]) (Z7 x.val) Z4 (Z7 x.val) Z4 <| wn ?_
   simp only [pu]
   have Dv := Z9 hV
   have zI := ZH hsl hV
   clear SS hV
   go_upto_region 3 with fail
   refine wl <| YT Z4 Z4 (Z7 x.val) <| ZM (Dx rfl (x.val) (0) dT) <| ZV Z4 <| wn ?_
   simp only [pu]
   have HE := Z9 (J4.out V.drew Dv.out.drew)
   clear J4 hcs
   go_upto_region 4 with fail
   refine ZF (C := fun U => U = V.drew) (by kernel_rfl) (by kernel_rfl) (rfl) ?_
   refine gy (Z7 x.val) <| gy (.slice (some ⟨b, off, none⟩) n c) <| X3 (.slice (Zc 4 (some ⟨b, off, none⟩) c 1) (n - 1) (c - 1)) (fun U hU => by rw [hU]; exact Dw rfl (by kernel_rfl) (hcut V.drew) (by kernel_rfl)) <| gy (Z7 x.val) <|
     gy (.slice (Zc 4 (some ⟨b, off, none⟩) c 1) (n - 1) (c - 1)) ?_
   simp only [pu]
   apply wpQuiet_nil
   intro U hU
   subst hU
   go_wp2_with fail
   go_ret2
   exact HE.out
  ·have hE : YM k (x :: R) = (0, x :: R) := VD (by intro q; omega)
   have Vo := Z9 (fun w' hb => Lm.out w' hb hE)
   clear Lm hTL hE
   go_enter Try.func84, Try.ntmps84
   go_upto_region 1 with fail
   refine wl <| ZG (.slice (some ⟨b, off, none⟩) n c) (Z8 n) <| ZM (Zl rfl (n) (0) dT) <| ZG Z4 (.slice (some ⟨b, off, none⟩) n c) <|
    YO (Z5 b (off + 0 * 4)) (Yi b off n c 0 hn0 _ _ _ rfl (by kernel_rfl) (by kernel_rfl)) <| ZV (Z5 b (off + 0 * 4)) <| ZI rfl ⟨b, off + 0 * 4, none⟩ (Z8 x.num) (YV hnum (by kernel_rfl)) <| ZV (Z8 k) <|
    ZM (Xv rfl (x.num) (k) (decide_eq_true (hcs.1))) <| ZV Z4 <| wn ?_
   simp only [pu]
   have SS : Calls Try.prog 92 #[.agg (Yh x ba bc)] w fun e w' => e = .returned (.iface 23 (Z7 x.val)) ∧ Below w.heap.size w w' := (CV w).mono fun e w' q => ⟨by rw [q.1, Rh, if_pos (by omega)], q.2⟩
   clear CV
   go_upto_region 2 with fail
   refine wl <| ZV (.slice (some ⟨b, off, none⟩) n c) <| YO (Z5 b (off + 0 * 4)) (Yi b off n c 0 hn0 _ _ _ rfl (by kernel_rfl) (by kernel_rfl)) <| ZI rfl ⟨b, off + 0 * 4, none⟩ (.agg (Yh x ba bc)) (hld) <|
    Y2 (.iface 23 (Z7 x.val)) (fun w' => Below w.heap.size w w') SS (fun V hV => ?_)
   simp only [pu]
   refine YX (.tuple #[Z7 x.val, Z4]) (.tuple #[Z7 x.val, Z4]) (Z7 x.val) Z4 (Z7 x.val) Z4 <| wn ?_
   simp only [pu]
   have Dv := Z9 hV
   have zI := ZH hsl hV
   clear SS hV
   go_upto_region 3 with fail
   refine wl <| YT Z4 Z4 (Z7 x.val) <| ZM (Dx rfl (x.val) (0) dF) <| ZV ZY <| wn ?_
   simp only [pu]
   have HE := Z9 (Vo.out V Dv.out)
   clear Vo
   go_upto_region 5 with fail
   refine wl <| YT (.slice (some ⟨b, off, none⟩) n c) (Z7 0) (.slice (some ⟨b, off, none⟩) n c) <| wn ?_
   simp only [pu]
   go_wp2_with fail
   go_ret2
   exact HE.out
theorem ZP {fn : Func} {tmps : Array Value} {w : World} {p q g ty : Nat} {v u : Value} (hr : fn.results = #[.cell p ty, .tmp q]) (h2 : tmps.getD p undef = Z5 g 0) (hl : (Instr.loadAt ty (Z5 g 0)).run Try.prog w = .ok v w) (h3 : tmps.getD q undef = u) : (results fn tmps).run Try.prog w = .ok (.tuple #[v, u]) w := by
 unfold results
 rw [hr]
 have h2' : tmps[p]?.getD undef = Z5 g 0 := by simpa using h2
 have h3' : tmps[q]?.getD undef = u := by simpa using h3
 have hl' := hl
 simp only [Instr.loadAt, Instr.sureAddr, Sem.run_bind, Sem.run_pure, Result.andThen_ok] at hl'
 simp [h2', h3', asAddr, hl', Result.andThen]
def TfO (w : World) (r : Option Tf) (e : Ending) (w' : World) : Prop := ∃ y ok, e = .returned (.tuple #[.agg (Yv y), .bool ok]) ∧ r = (if ok = true then some y else none) ∧ Below w.heap.size w w'
theorem FY {f : Zp} (h : ¬ (f.kind = 2 ∧ f.num = 6 ∧ (YD f.bytes).2.2 = 0 ∧ (YM 2 (Yw 1 (YD f.bytes).1).2).2.length = 0)) : VB f = none := if_neg h
theorem FX {f : Zp} (h : f.kind = 2 ∧ f.num = 6 ∧ (YD f.bytes).2.2 = 0 ∧ (YM 2 (Yw 1 (YD f.bytes).1).2).2.length = 0) : VB f = some ((Yw 1 (YD f.bytes).1).1, (YM 2 (Yw 1 (YD f.bytes).1).2).1) := if_pos h
theorem Zb {w w0 : World} {g B i ty T : Nat} {cs cs' : Array Value} {v : Value} (h : Bx w g cs T) (hb : Below B w0 w) (hg : B ≤ g) (hi : i < cs.size) (h1 : v.oneCell' = true) (hs : (Try.prog.info? ty).map (·.size) = some 1) (hc : cs.setIfInBounds i v = cs') :
  ∃ V, (Instr.storeAt ty (Z5 g i) v).run Try.prog w = .ok () V ∧ Bx V g cs' T ∧ Below B w0 V ∧ But g w V :=
 ⟨_, WS h hi h1 hs, hc ▸ h.Dy v, hb.setCell hg v, But.setCell _ _ _⟩
theorem Qz (x : Zp) (b : Option Addr) (d : Nat) (w : World) (hs : Sl w b d x.bytes) (hd : x.bytes.length ≤ d) (hl : x.bytes.length ≤ 1000000) (h8 : ∀ y, y ∈ x.bytes → W8 y) (hkd : x.kind = 0 ∨ x.kind = 2) :
  Calls Try.prog 85 #[.agg (Yh x b d)] w (TfO w (VB x)) := by
 have hb1 : Below w.heap.size w (w.alloc (.cells (Yh x b d) 99)) := (Below.refl _ w).alloc (Nat.le_refl _) _
 have hX1 : Bx (w.alloc (.cells (Yh x b d) 99)) w.heap.size (Yh x b d) 99 := heap_alloc_last w _
 have hsz1 : (w.alloc (.cells (Yh x b d) 99)).heap.size = w.heap.size + 1 := by simp
 have CV := fun V => NR x b d V
 have HX := Z9 (@FY x)
 have HY := Z9 (@FX x)
 have CFL := Z9 (fun V (h : Sl V b d x.bytes) => Rz b d x.bytes V hl h h8 hd)
 have tX : Hid ((YD x.bytes).2.2 = 0 → ∀ f, f ∈ (YD x.bytes).1 → Vf f) := Z9 fun h => by
  rcases Tj (fun y hy => h8 y hy) hl with ⟨-, q⟩ | ⟨P, e, -, hP⟩
  ·exact absurd h q
  ·rw [e]; exact hP
 generalize YD x.bytes = FR at *
 have Jv : Hid (∀ V, Below w.heap.size w V → VB x = none → TfO w (VB x) (.returned (.tuple #[.agg (Yv TK), ZY])) V) := Z9 fun V hb e => ⟨TK, false, rfl, by rw [e]; rfl, hb⟩
 have DC : Hid (∀ V y, Below w.heap.size w V → VB x = some y → TfO w (VB x) (.returned (.tuple #[.agg (Yv y), Z4])) V) := Z9 fun V y hb e => ⟨y, true, rfl, by rw [e]; rfl, hb⟩
 generalize VB x = RR at *
 go_enter Try.func85, Try.ntmps85
 go_upto_region 1 with fail
 change Code.wp _ _ _ _ ((w.alloc (.cells (Yh x b d) 99)).alloc (.cells (Yv TK) 54))
 generalize w.alloc (.cells (Yh x b d) 99) = W1 at *
 have hb0 : Below w.heap.size w (W1.alloc (.cells (Yv TK) 54)) := hb1.alloc hb1.size _
 have hX0 : Bx (W1.alloc (.cells (Yv TK) 54)) w.heap.size (Yh x b d) 99 := hX1.below hX1.lt ((Below.refl _ W1).alloc (Nat.le_refl _) _)
 have hY0 : Bx (W1.alloc (.cells (Yv TK) 54)) W1.heap.size (Yv TK) 54 := heap_alloc_last W1 _
 rw [hsz1] at hY0
 generalize W1.alloc (.cells (Yv TK) 54) = W at *
 obtain ⟨g0, hg0⟩ := ZR w.heap.size
 obtain ⟨g2, hg2⟩ := ZR (w.heap.size + 1)
 have HB0 := Z9 hb0
 have HG2 : Hid (w.heap.size ≤ g2) := Z9 (by omega)
 rw [hg2] at hY0
 rw [hg0] at hX0
 rw [hg2, hg0]
 have hsW := ZH hs hb0
 clear hb0 hb1 hX1 hsz1 hg0 hg2 hs
 rcases hkd with hk | hk
 ·have SS : Calls Try.prog 92 #[.agg (Yh x b d)] W fun e w' => e = .returned (.iface 23 (Z7 x.val)) ∧ Below W.heap.size W w' := (CV W).mono fun e w' q => ⟨by rw [q.1, Rh, if_pos hk], q.2⟩
  clear CV CFL tX
  refine wl <| ZI rfl ⟨g0, 0, none⟩ (.agg (Yh x b d)) (SV hX0) <| Y2 (.iface 23 (Z7 x.val)) (fun w' => Below W.heap.size W w') SS (fun V hV => ?_)
  simp only [pu]
  refine YX (.tuple #[.slice none 0 0, ZY]) (.tuple #[.slice none 0 0, ZY]) (.slice none 0 0) ZY (.slice none 0 0) ZY <| wn ?_
  simp only [pu]
  have ET := hX0.below hX0.lt hV
  have pU := hY0.below hY0.lt hV
  have zI := ZH hsW hV
  have Wh := Z9 (HB0.out.trans (hV.mono HB0.out.size))
  clear hV hX0 hY0 hsW HB0 SS
  go_upto_region 2 with fail
  refine wl <| YX ZY Z4 Z4 undef undef undef <| ZV Z4 <| wn ?_
  simp only [pu]
  obtain ⟨hst, hZ⟩ := WR (y := TK) pU
  have Zj := Z9 (ZT Wh.out HG2.out (Yv TK))
  have HE := Z9 (Jv.out _ Zj.out (HX.out (by rw [hk]; intro q; exact absurd q.1 (by decide))))
  generalize World.setRow _ g2 (Yv TK) = V9 at *
  clear Jv DC HX HY
  go_upto_region 3 with fail
  refine wl <| ZV (.agg #[.string ⟨#[]⟩, Z7 0]) <| Zt rfl (hst) <| ZV ZY <| wn ?_
  simp only [pu]
  go_wp2_with fail
  exact bodyPost_ret (ZP (p := 2) (q := 3) rfl (by kernel_rfl) (WT hZ) rfl) rfl HE.out
 ·have SS : Calls Try.prog 92 #[.agg (Yh x b d)] W fun e w' => e = .returned (.iface 50 (.slice b x.bytes.length d)) ∧ Below W.heap.size W w' := (CV W).mono fun e w' q => ⟨by rw [q.1, Rh, if_neg (by omega)], q.2⟩
  clear CV
  refine wl <| ZI rfl ⟨g0, 0, none⟩ (.agg (Yh x b d)) (SV hX0) <| Y2 (.iface 50 (.slice b x.bytes.length d)) (fun w' => Below W.heap.size W w') SS (fun V hV => ?_)
  simp only [pu]
  refine YX (.tuple #[.slice b x.bytes.length d, Z4]) (.tuple #[.slice b x.bytes.length d, Z4]) (.slice b x.bytes.length d) Z4 (.slice b x.bytes.length d) Z4 <| wn ?_
  simp only [pu]
  have ET := hX0.below hX0.lt hV
  have pU := hY0.below hY0.lt hV
  have zI := ZH hsW hV
  have Wh := Z9 (HB0.out.trans (hV.mono HB0.out.size))
  clear hV hX0 hY0 hsW HB0 SS
  go_upto_region 2 with fail
  by_cases hn : x.num = 6
  ·skip
   refine wl <| Xl Z4 ZY ZY (Z5 g0 0) <| ZI rfl ⟨g0, 0, none⟩ (Z8 x.num) (ET.ZN 0) <| ZM (Ei rfl x.num 6 (decide_eq_true hn)) <|
    ZV ZY <| wn ?_
   simp only [pu]
   have CF := CFL.out V zI
   clear CFL zI ET
   go_upto_region 4 with fail
   refine wl <| ZV (.slice b x.bytes.length d) <|
    Yl (fun v w' => ∃ a c ps, v = .tuple #[.slice a ps.length c, Z8 FR.2.1, Z8 FR.2.2] ∧ ps.map Prod.fst = FR.1 ∧ ps.length ≤ c ∧ Ri w' V.heap.size a ps ∧ Below V.heap.size V w') (CF.mono fun e w' q => by obtain ⟨v, ps, h1, h2, h3, h4⟩ := q; obtain ⟨a, c, rfl, hc, hf⟩ := h3.fsb; exact ⟨_, h1, a, c, ps, rfl, h2, hc, hf, h4⟩) (fun v5 V5 hq => ?_)
   obtain ⟨a5, c5, ps, rfl, hps, hc5, jq, hb5⟩ := hq
   simp only [pu]
   refine YX (.tuple #[.slice a5 ps.length c5, Z8 FR.2.1, Z8 FR.2.2]) (.slice a5 ps.length c5) (Z8 FR.2.1) (Z8 FR.2.2) (.slice a5 ps.length c5) (Z8 FR.2.1) <| ZV (Z8 FR.2.2) <| wn ?_
   simp only [pu]
   have tN := pU.below pU.lt hb5
   have Pv := Z9 (Wh.out.trans (hb5.mono Wh.out.size))
   have iM : Hid (g2 < V.heap.size) := Z9 pU.lt
   obtain ⟨P, n5, e5⟩ := FR
   dsimp only at *
   clear hb5 pU Wh CF
   go_upto_region 5 with fail
   by_cases he : e5 = 0
   ·have hvf := tX.out he
    rw [← hps] at hvf HX HY
    clear tX hps
    refine wl <| ZV (Z8 e5) <| ZM (YZ rfl e5 0 (decide_eq_true he)) <| wn ?_
    simp only [pu]
    have CT := TY a5 c5 ps V.heap.size 1 V5 jq hc5 hvf
    have hv2 := Vz (k := 1) hvf
    generalize Yw 1 (ps.map Prod.fst) = TT at *
    obtain ⟨s1, R1⟩ := TT
    dsimp only at *
    go_upto_region 7 with fail
    refine wl <| ZV (.slice a5 ps.length c5) <|
     Yl (fun v w' => ∃ a c qs, v = .tuple #[.string s1, .slice a qs.length c] ∧ Ri w' V.heap.size a qs ∧ qs.length ≤ c ∧ qs.map Prod.fst = R1 ∧ Below V5.heap.size V5 w') (CT.mono fun e w' q => by obtain ⟨a, c, qs, h1, h2⟩ := q; exact ⟨_, h1, a, c, qs, rfl, h2⟩) (fun v6 V6 hq => ?_)
    obtain ⟨a6, c6, q1, rfl, Lp, hc6, hq1, hb6⟩ := hq
    have PW := tN.below tN.lt hb6
    have Xp := Z9 (Pv.out.trans (hb6.mono Pv.out.size))
    obtain ⟨V7, Xy, sH, O7, YF⟩ := Zb (i := 0) (ty := 9) (v := .string s1) (cs' := Yv (s1, 0)) PW Xp.out HG2.out (by show 0 < 2; decide) rfl (by kernel_rfl) rfl
    have hF7 := Lp.but YF iM.out
    have Um := Z9 O7
    clear CT hb6 tN Pv jq hc5
    simp only [pu]
    refine Xl (.tuple #[.string s1, .slice a6 q1.length c6]) (.string s1) (.slice a6 q1.length c6) (Z5 g2 0) <| Zt rfl (Xy) <| ZV (.slice a6 q1.length c6) <| wn ?_
    simp only [pu]
    rw [← hq1] at hv2 HX HY
    have CN := Xa a6 c6 q1 V.heap.size 2 V7 hF7 hc6 hv2
    generalize YM 2 (q1.map Prod.fst) = TN at *
    obtain ⟨m2, R2⟩ := TN
    dsimp only at *
    clear Xy PW Xp O7 YF Lp hvf hv2 hq1
    go_upto_region 8 with fail
    refine wl <| ZV (.slice a6 q1.length c6) <|
     Yl (fun v w' => ∃ a c qs, v = .tuple #[Z7 m2, .slice a qs.length c] ∧ Ri w' V.heap.size a qs ∧ qs.length ≤ c ∧ qs.map Prod.fst = R2 ∧ Below V7.heap.size V7 w') (CN.mono fun e w' q => by obtain ⟨a, c, qs, h1, h2⟩ := q; exact ⟨_, h1, a, c, qs, rfl, h2⟩) (fun v8 V8 hq => ?_)
    obtain ⟨a8, c8, q2, rfl, hF8, hc8, hq2, hb8⟩ := hq
    have hY8 := sH.below sH.lt hb8
    have yc := Z9 (Um.out.trans (hb8.mono Um.out.size))
    obtain ⟨V9, YJ, Ue, Ws, -⟩ := Zb (i := 1) (ty := 23) (v := Z7 m2) (cs' := Yv (s1, m2)) hY8 yc.out HG2.out (by show 1 < 2; decide) rfl (by kernel_rfl) rfl
    have Zj := Z9 Ws
    clear CN hb8 sH Um hF7 hc6 hF8 hc8 hY8 yc
    simp only [pu]
    refine Xl (.tuple #[Z7 m2, .slice a8 q2.length c8]) (Z7 m2) (.slice a8 q2.length c8) (Z5 g2 1) <| Zt rfl (YJ) <| ZV (.slice a8 q2.length c8) <| wn ?_
    simp only [pu]
    rw [← hq2] at HX HY
    rw [List.length_map] at HX HY
    clear YJ Ws hq2
    obtain ⟨n2, hn2⟩ := ZR q2.length
    rw [hn2] at HX HY ⊢
    clear hn2
    go_upto_region 9 with fail
    by_cases hz : n2 = 0
    ·refine wl <| ZG (.slice a8 n2 c8) (Z8 n2) <| ZM (Zl rfl (n2) (0) dF) <| wn ?_
     simp only [pu]
     obtain ⟨hst, hZ⟩ := WR (y := (s1, m2)) Ue
     have FW := Z9 (ZT Zj.out HG2.out (Yv (s1, m2)))
     have HE := Z9 (DC.out _ _ FW.out (HY.out ⟨hk, hn, he, hz⟩))
     generalize World.setRow _ g2 (Yv (s1, m2)) = VA at *
     clear Jv DC HX HY FW Zj
     go_upto_region 11 with fail
     refine wl <| ZI rfl ⟨g2, 0, none⟩ (.agg (Yv (s1, m2))) (WT Ue) <| Zt rfl (hst) <| ZV Z4 <| wn ?_
     simp only [pu]
     go_wp2_with fail
     exact bodyPost_ret (ZP (p := 2) (q := 3) rfl (by kernel_rfl) (WT hZ) rfl) rfl HE.out
    ·refine wl <| ZG (.slice a8 n2 c8) (Z8 n2) <| ZM (Zl rfl (n2) (0) dT) <| wn ?_
     simp only [pu]
     obtain ⟨hst, hZ⟩ := WR (y := TK) Ue
     have FW := Z9 (ZT Zj.out HG2.out (Yv TK))
     have HE := Z9 (Jv.out _ FW.out (HX.out (fun q => hz q.2.2.2)))
     generalize World.setRow _ g2 (Yv TK) = VA at *
     clear Jv DC HX HY
     go_upto_region 10 with fail
     refine wl <| ZV (.agg #[.string ⟨#[]⟩, Z7 0]) <| Zt rfl (hst) <| ZV ZY <| wn ?_
     simp only [pu]
     go_wp2_with fail
     exact bodyPost_ret (ZP (p := 2) (q := 3) rfl (by kernel_rfl) (WT hZ) rfl) rfl HE.out
   ·refine wl <| ZV (Z8 e5) <| ZM (YZ rfl e5 0 (decide_eq_false he)) <| wn ?_
    simp only [pu]
    obtain ⟨hst, hZ⟩ := WR (y := TK) tN
    have Zj := Z9 (ZT Pv.out HG2.out (Yv TK))
    have HE := Z9 (Jv.out _ Zj.out (HX.out (fun q => he q.2.2.1)))
    generalize World.setRow _ g2 (Yv TK) = V9 at *
    clear Jv DC HX HY
    go_upto_region 6 with fail
    refine wl <| ZV (.agg #[.string ⟨#[]⟩, Z7 0]) <| Zt rfl (hst) <| ZV ZY <| wn ?_
    simp only [pu]
    go_wp2_with fail
    exact bodyPost_ret (ZP (p := 2) (q := 3) rfl (by kernel_rfl) (WT hZ) rfl) rfl HE.out
  ·refine wl <| Xl Z4 ZY ZY (Z5 g0 0) <| ZI rfl ⟨g0, 0, none⟩ (Z8 x.num) (ET.ZN 0) <| ZM (Ei rfl x.num 6 (decide_eq_false hn)) <|
    ZV Z4 <| wn ?_
   simp only [pu]
   obtain ⟨hst, hZ⟩ := WR (y := TK) pU
   have Zj := Z9 (ZT Wh.out HG2.out (Yv TK))
   have HE := Z9 (Jv.out _ Zj.out (HX.out (fun q => hn q.2.1)))
   generalize World.setRow _ g2 (Yv TK) = V9 at *
   clear Jv DC HX HY
   go_upto_region 3 with fail
   refine wl <| ZV (.agg #[.string ⟨#[]⟩, Z7 0]) <| Zt rfl (hst) <| ZV ZY <| wn ?_
   simp only [pu]
   go_wp2_with fail
   exact bodyPost_ret (ZP (p := 2) (q := 3) rfl (by kernel_rfl) (WT hZ) rfl) rfl HE.out
end Go.Proofs.Ytnhlpahoomcgnaa
