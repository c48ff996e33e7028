/-
  The reference's Form: contract. The program's Encode, the reference's EncodeTx: contracts.
-/
import Derived.Test.YtglglhcnofbagaaJ7
namespace Go.Proofs.Ytglglhcnofbagaa
attribute [local irreducible] wpList wpQuiet
open Go.RowKit
set_option linter.unusedSimpArgs false
set_option linter.unusedVariables false

theorem ff {a b : Bool} (h : a = true → b = true) (hb : b = false) : a = false := by
 cases a
 ·rfl
 ·rw [h rfl] at hb; cases hb
/-- What region 9 keeps. -/
structure KF (W : World) (B g5 : Nat) (y : Tf) (R3 : Value) (ps : List (Fld × Value)) (b0 b2 b3 b5 b6 b7 b8 b9 b10 b11 : Bool) (x35 x38 x39 x40 x41 x42 x3 : Value) (V : World) : Prop where
 o3 : b3 = true → b2 = true
 o5 : b6 = true → b5 = true
 o6 : b6 = true → b3 = true
 o7 : b7 = true → b6 = true
 o8 : b8 = true → b7 = true
 o9 : b9 = true → b8 = true
 o10 : b10 = true → b9 = true
 o11 : b11 = true → b10 = true
 o0 : b10 = true → b0 = true
 bel : Below B W V
 old : b10 = false → Below W.heap.size W V
 r35 : b3 = true → b6 = false → ∃ qs, RowS V W.heap.size x35 qs ∧ qs.map Prod.fst = tF 1 y.1
 r38 : b6 = true → b7 = false → ∃ qs, RowS V W.heap.size x38 qs ∧ qs.map Prod.fst = trF y
 r39 : b7 = true → b9 = false → Own V W.heap.size x39 (msg (trF y))
 v40 : b8 = true → ∃ a c, x39 = .slice a (msg (trF y)).length c ∧ x40 = .agg (fdA (tfF y) a c)
 n41 : b9 = true → b10 = false → ∃ V0 a c, V = V0.alloc (.cells (fdA (tfF y) a c) 66) ∧ x41 = .slice (some ⟨V0.heap.size, 0, none⟩) 1 1 ∧ Below W.heap.size W V0 ∧ Own V0 W.heap.size (.slice a (msg (trF y)).length c) (msg (trF y))
 d42 : b10 = true → ∃ qs, RowS V B x42 qs ∧ qs.map Prod.fst = ps.map Prod.fst ++ [tfF y]
 d3 : b11 = true → ∃ qs, RowS V B x3 qs ∧ qs.map Prod.fst = ps.map Prod.fst ++ [tfF y]
 n3 : b11 = false → x3 = R3
section
variable {W : World} {B g5 : Nat} {y : Tf} {R3 : Value} {ps : List (Fld × Value)} {b0 b2 b3 b5 b6 b7 b8 b9 b10 b11 : Bool} {x35 x38 x39 x40 x41 x42 x3 : Value} {V : World}
theorem KF.init (hW : B ≤ W.heap.size) : KF W B g5 y R3 ps false false false false false false false false false false x35 x38 x39 x40 x41 x42 R3 W.drew :=
 ⟨(fun h => nomatch h), (fun h => nomatch h), (fun h => nomatch h), (fun h => nomatch h), (fun h => nomatch h), (fun h => nomatch h), (fun h => nomatch h), (fun h => nomatch h), (fun h => nomatch h), (Below.refl _ _).drew, fun _ => (Below.refl _ _).drew, (fun h => nomatch h), (fun h => nomatch h), (fun h => nomatch h), (fun h => nomatch h), (fun h => nomatch h), (fun h => nomatch h), (fun h => nomatch h), fun _ => rfl⟩
theorem KF.s0 (h : KF W B g5 y R3 ps false b2 b3 b5 b6 b7 b8 b9 b10 b11 x35 x38 x39 x40 x41 x42 x3 V) : b10 = false ∧ b11 = false ∧ x3 = R3 ∧ KF W B g5 y R3 ps true b2 b3 b5 b6 b7 b8 b9 b10 b11 x35 x38 x39 x40 x41 x42 x3 V := by
 have h10 := ff h.o0 rfl
 have h11 := ff h.o11 h10
 exact ⟨h10, h11, h.n3 h11, { h with o0 := fun _ => rfl }⟩
theorem KF.s3 (h : KF W B g5 y R3 ps b0 b2 false b5 b6 b7 b8 b9 b10 b11 x35 x38 x39 x40 x41 x42 x3 V) (hB : B ≤ W.heap.size) {v : Value} {V2 : World} {qs : List (Fld × Value)} (hr : RowS V2 W.heap.size v qs) (hq : qs.map Prod.fst = tF 1 y.1) (h2' : true = true → b2 = true) (hb : Below W.heap.size V V2) : KF W B g5 y R3 ps b0 b2 true b5 b6 b7 b8 b9 b10 b11 v x38 x39 x40 x41 x42 x3 V2 := by
 have h6 := ff h.o6 rfl
 have h7 := ff h.o7 h6
 have h8 := ff h.o8 h7
 have h9 := ff h.o9 h8
 have h10 := ff h.o10 h9
 have h11 := ff h.o11 h10
 subst h6 h7 h8 h9 h10 h11
 have ho := (h.old rfl).trans hb
 exact ⟨h2', (fun h => nomatch h), fun _ => rfl, h.o7, h.o8, h.o9, h.o10, h.o11, h.o0, ho.mono hB, fun _ => ho, fun _ _ => ⟨qs, hr, hq⟩, (fun h => nomatch h), (fun h => nomatch h), (fun h => nomatch h), (fun h => nomatch h), (fun h => nomatch h), (fun h => nomatch h), h.n3⟩
theorem KF.s6 (h : KF W B g5 y R3 ps b0 b2 true b5 false b7 b8 b9 b10 b11 x35 x38 x39 x40 x41 x42 x3 V) (hB : B ≤ W.heap.size) {v : Value} {V2 : World} {qs : List (Fld × Value)} (hr : RowS V2 W.heap.size v qs) (hq : qs.map Prod.fst = trF y) (h5' : true = true → b5 = true) (hb : Below W.heap.size V V2) : KF W B g5 y R3 ps b0 b2 true b5 true b7 b8 b9 b10 b11 x35 v x39 x40 x41 x42 x3 V2 := by
 have h7 := ff h.o7 rfl
 have h8 := ff h.o8 h7
 have h9 := ff h.o9 h8
 have h10 := ff h.o10 h9
 have h11 := ff h.o11 h10
 subst h7 h8 h9 h10 h11
 have ho := (h.old rfl).trans hb
 exact ⟨h.o3, h5', fun _ => rfl, fun _ => rfl, h.o8, h.o9, h.o10, h.o11, h.o0, ho.mono hB, fun _ => ho, (fun _ h => nomatch h), fun _ _ => ⟨qs, hr, hq⟩, (fun h => nomatch h), (fun h => nomatch h), (fun h => nomatch h), (fun h => nomatch h), (fun h => nomatch h), h.n3⟩
theorem KF.s7 (h : KF W B g5 y R3 ps b0 b2 b3 b5 true false b8 b9 b10 b11 x35 x38 x39 x40 x41 x42 x3 V) (hB : B ≤ W.heap.size) {v : Value} {V2 : World} (hr : Own V2 W.heap.size v (msg (trF y))) (hb : Below V.heap.size V V2) : KF W B g5 y R3 ps b0 b2 b3 b5 true true b8 b9 b10 b11 x35 x38 v x40 x41 x42 x3 V2 := by
 have h8 := ff h.o8 rfl
 have h9 := ff h.o9 h8
 have h10 := ff h.o10 h9
 have h11 := ff h.o11 h10
 subst h8 h9 h10 h11
 have ho := (h.old rfl).trans (hb.mono (h.old rfl).size)
 exact ⟨h.o3, h.o5, h.o6, fun _ => rfl, fun _ => rfl, h.o9, h.o10, h.o11, h.o0, ho.mono hB, fun _ => ho, (fun _ h => nomatch h), (fun _ h => nomatch h), fun _ _ => hr, (fun h => nomatch h), (fun h => nomatch h), (fun h => nomatch h), (fun h => nomatch h), h.n3⟩
theorem KF.s8 (h : KF W B g5 y R3 ps b0 b2 b3 b5 b6 true false b9 b10 b11 x35 x38 x39 x40 x41 x42 x3 V) : ∃ a c, x39 = .slice a (msg (trF y)).length c ∧ KF W B g5 y R3 ps b0 b2 b3 b5 b6 true true b9 b10 b11 x35 x38 x39 (.agg (fdA (tfF y) a c)) x41 x42 x3 V := by
 have h9 := ff h.o9 rfl
 have h10 := ff h.o10 h9
 have h11 := ff h.o11 h10
 subst h9 h10 h11
 obtain ⟨a, c, e, -, -⟩ := (h.r39 rfl rfl).sl
 exact ⟨a, c, e, h.o3, h.o5, h.o6, h.o7, fun _ => rfl, fun _ => rfl, h.o10, h.o11, h.o0, h.bel, h.old, h.r35, h.r38, h.r39, fun _ => ⟨a, c, e, rfl⟩, (fun h => nomatch h), (fun h => nomatch h), (fun h => nomatch h), h.n3⟩
theorem KF.s9 (h : KF W B g5 y R3 ps b0 b2 b3 b5 b6 b7 true false b10 b11 x35 x38 x39 x40 x41 x42 x3 V) (hB : B ≤ W.heap.size) : ∃ a c, x40 = .agg (fdA (tfF y) a c) ∧ KF W B g5 y R3 ps b0 b2 b3 b5 b6 b7 true true b10 b11 x35 x38 x39 x40 (.slice (some ⟨V.heap.size, 0, none⟩) 1 1) x42 x3 (V.alloc (.cells (fdA (tfF y) a c) 66)) := by
 have h10 := ff h.o10 rfl
 have h11 := ff h.o11 h10
 subst h10 h11
 obtain ⟨a, c, e1, e2⟩ := h.v40 rfl
 have hb : Below V.heap.size V (V.alloc (.cells (fdA (tfF y) a c) 66)) := (Below.refl _ V).alloc (Nat.le_refl _) _
 have ho := (h.old rfl).trans (hb.mono (h.old rfl).size)
 have h7 := h.o8 rfl
 have h6 := h.o7 h7
 have h3 := h.o6 h6
 subst h3 h6 h7
 refine ⟨a, c, e2, h.o3, h.o5, h.o6, h.o7, h.o8, fun _ => rfl, fun _ => rfl, h.o11, h.o0, ho.mono hB, fun _ => ho, (fun _ h => nomatch h), (fun _ h => nomatch h), (fun _ h => nomatch h), h.v40, fun _ _ => ⟨V, a, c, rfl, rfl, h.old rfl, by rw [← e1]; exact h.r39 rfl rfl⟩, (fun h => nomatch h), (fun h => nomatch h), h.n3⟩
theorem KF.s10 (h : KF W B g5 y R3 ps true b2 b3 b5 b6 b7 b8 true false b11 x35 x38 x39 x40 x41 x42 x3 V) (hR : RowS W B R3 ps) (hB : B ≤ W.heap.size) (hl : ps.length ≤ 100000) : ∃ a V2 v2, x41 = .slice a 1 1 ∧ (Builtin.append_ #[61, 61] 61 #[R3, x41]).run Try.prog V = .ok v2 V2 ∧ KF W B g5 y R3 ps true b2 b3 b5 b6 b7 b8 true true b11 x35 x38 x39 x40 x41 v2 x3 V2 := by
 have h11 := ff h.o11 rfl
 subst h11
 obtain ⟨V0, a, c, rfl, rfl, hb0, ho⟩ := h.n41 rfl rfl
 obtain ⟨a', c', e, hs, -⟩ := ho.sl
 simp only [Value.slice.injEq, true_and] at e
 obtain ⟨rfl, rfl⟩ := e
 obtain ⟨v2, V2, hap, hr2, hb2⟩ := grow_s (hR.below hb0) (Nat.le_trans hB hb0.size) (tfF y) a c ⟨a, c, rfl, hs, fun x hx => by
  refine ⟨?_, ?_, fun e => ?_⟩
  ·have := ho.lt x.block (by rw [hx]; rfl)
   omega
  ·have := ho.lt x.block (by rw [hx]; rfl)
   exact this.2
  ·have q1 := ho.lt x.block (by rw [hx]; rfl)
   have q2 := hR.1.lt x.block e
   omega⟩ hl
 have hc : (tfF y).bytes = msg (trF y) := rfl
 refine ⟨_, V2, v2, rfl, hap, h.o3, h.o5, h.o6, h.o7, h.o8, h.o9, fun _ => rfl, fun _ => rfl, fun _ => rfl, (hb0.mono hB).trans hb2, (fun h => nomatch h), ?_, ?_, (fun _ h => nomatch h), h.v40, (fun _ h => nomatch h), fun _ => ⟨_, hr2, by rw [List.map_append]; rfl⟩, (fun h => nomatch h), h.n3⟩
 ·intro _ h6
  have := h.o7 (h.o8 (h.o9 rfl))
  rw [this] at h6
  cases h6
 ·intro _ h7
  have := h.o8 (h.o9 rfl)
  rw [this] at h7
  cases h7
theorem KF.s11 (h : KF W B g5 y R3 ps b0 b2 b3 b5 b6 b7 b8 b9 true false x35 x38 x39 x40 x41 x42 x3 V) : KF W B g5 y R3 ps b0 b2 b3 b5 b6 b7 b8 b9 true true x35 x38 x39 x40 x41 x42 x42 V :=
 ⟨h.o3, h.o5, h.o6, h.o7, h.o8, h.o9, h.o10, fun _ => rfl, h.o0, h.bel, h.old, h.r35, h.r38, h.r39, h.v40, h.n41, h.d42, h.d42, (fun h => nomatch h)⟩
end
theorem ref_textF (v : Value) (ps : List (Fld × Value)) (B : Nat) (k : Int) (s : ByteArray) (w : World) (h : RowS w B v ps) (hB : B ≤ w.heap.size) (hl : ps.length ≤ 100000) : Calls Try.prog 24 #[v, .int .i64 k, .string s] w (FldS w B ps (tF k s)) := ref_text v ps B k s w h hB hl
theorem ref_numF (v : Value) (ps : List (Fld × Value)) (B : Nat) (k n : Int) (w : World) (h : RowS w B v ps) (hB : B ≤ w.heap.size) (hl : ps.length ≤ 100000) : Calls Try.prog 25 #[v, .int .i64 k, .int .u64 n] w (FldS w B ps (nF k n)) := ref_number2 v ps B k n w h hB hl
/-- The fields ahead of the transfers. -/
def hfF (t : Txd) : List Fld := tF 1 t.snd ++ nF 2 t.sq ++ nF 3 t.gas ++ nF 4 t.fee ++ tF 5 t.memo
def foJ (t : Txd) (j : Nat) : List Fld := hfF t ++ (t.tr.take j).map tfF
theorem foJ_zero (t : Txd) : foJ t 0 = hfF t := by unfold foJ; rw [List.take_zero, List.map_nil, List.append_nil]
theorem foJ_all (t : Txd) (j : Nat) (h : t.tr.length ≤ j) : foJ t j = txF t := by unfold foJ hfF txF; rw [List.take_of_length_le h]; simp only [List.append_assoc]
theorem foJ_step (t : Txd) (j : Nat) (h : j < t.tr.length) : foJ t (j + 1) = foJ t j ++ [tfF (tfa t.tr j)] := by
 unfold foJ
 rw [List.take_succ_eq_append_getElem h, List.map_append, ← List.append_assoc, List.map_cons, List.map_nil, tfa_get h]
theorem tF_len (k : Int) (s : ByteArray) : (tF k s).length ≤ 1 := by unfold tF; split <;> simp
theorem nF_len (k v : Int) : (nF k v).length ≤ 1 := by unfold nF; split <;> simp
theorem foJ_len (t : Txd) (j : Nat) : (foJ t j).length ≤ 5 + t.tr.length := by
 unfold foJ hfF
 simp only [List.length_append, List.length_map, List.length_take]
 have a := tF_len 1 t.snd
 have b := nF_len 2 t.sq
 have c := nF_len 3 t.gas
 have d := nF_len 4 t.fee
 have e := tF_len 5 t.memo
 omega
theorem flds_of {P : List (Fld × Value)} {M : List Fld} (e : P.map Prod.fst = M) (h : ∀ x, x ∈ M → Vf x) : ∀ p, p ∈ P → Vfi p.1.num p.1.kind p.1.val p.1.bytes.length ∧ W64 p.1.val := fun p hp => by
 have := h p.1 (by rw [← e]; exact List.mem_map_of_mem hp)
 exact ⟨this.1, this.2.1⟩
set_option maxRecDepth 100000 in
set_option maxHeartbeats 8000000 in
theorem ref_form (x : Txd) (a : Option Addr) (c : Nat) (w : World) (hR : Cs w a (tfc x.tr)) (hok : OkX x) :
  Calls Try.prog 11 #[.agg (txA x a c)] w (OwnO w w.heap.size (form x)) := by
 have hb0 : Below w.heap.size w (w.alloc (.cells (txA x a c) 32)) := (Below.refl _ w).alloc (Nat.le_refl _) _
 have hX0 : Bx (w.alloc (.cells (txA x a c) 32)) w.heap.size (txA x a c) 32 := heap_alloc_last w _
 have HA := Lib.hid (hR.below hb0)
 have HWT := Lib.hid (fun j (hj : j < x.tr.length) => hok.tr (x := tfa x.tr j) (by rw [tfa_get hj]; exact List.getElem_mem hj))
 have HVF := Lib.hid hok.vf
 have HFL : Hid ((msg (txF x)).length ≤ 900000) := Lib.hid (by have := (form_len x).1; have := hok.wt; unfold form at *; omega)
 have HST := Lib.hid (fun j hj => foJ_step x j hj)
 have HHD : Hid (hfF x = tF 1 x.snd ++ nF 2 x.sq ++ nF 3 x.gas ++ nF 4 x.fee ++ tF 5 x.memo) := Lib.hid rfl
 have HZ := Lib.hid (foJ_zero x)
 have HALL := Lib.hid (fun j h => foJ_all x j h)
 have HJL := Lib.hid (foJ_len x)
 have HN4L : Hid (x.tr.length ≤ 20000) := Lib.hid (by have := trW_len x.tr; have := hok.wt; unfold wtX at this; omega)
 have HFO : Hid (form x = msg (txF x)) := Lib.hid rfl
 have HL1 := Lib.hid (tF_len 1 x.snd)
 have HL2 := Lib.hid (nF_len 2 x.sq)
 have HL3 := Lib.hid (nF_len 3 x.gas)
 have HL4 := Lib.hid (nF_len 4 x.fee)
 have HT1 := Lib.hid (fun V (v : Value) ps B (h : RowS V B v ps) (hB : B ≤ V.heap.size) hl => ref_textF v ps B 1 x.snd V h hB hl)
 have HN2 := Lib.hid (fun V (v : Value) ps B (h : RowS V B v ps) (hB : B ≤ V.heap.size) hl => ref_numF v ps B 2 x.sq V h hB hl)
 have HN3 := Lib.hid (fun V (v : Value) ps B (h : RowS V B v ps) (hB : B ≤ V.heap.size) hl => ref_numF v ps B 3 x.gas V h hB hl)
 have HN4 := Lib.hid (fun V (v : Value) ps B (h : RowS V B v ps) (hB : B ≤ V.heap.size) hl => ref_numF v ps B 4 x.fee V h hB hl)
 have HT5 := Lib.hid (fun V (v : Value) ps B (h : RowS V B v ps) (hB : B ≤ V.heap.size) hl => ref_textF v ps B 5 x.memo V h hB hl)
 generalize hfF x = HD at *
 generalize form x = FO at *
 generalize foJ x = TJ at *
 generalize txF x = TXF at *
 obtain ⟨snd, sq, gas, fee, memo, M⟩ := x
 simp only [txA] at hb0 hX0 HA ⊢
 dsimp only at *
 generalize tF 1 snd = l1 at *
 generalize nF 2 sq = l2 at *
 generalize nF 3 gas = l3 at *
 generalize nF 4 fee = l4 at *
 generalize tF 5 memo = l5 at *
 obtain ⟨n, hn⟩ : ∃ n, M.length = n := ⟨_, rfl⟩
 have HN := Lib.hid hn
 rw [hn] at hb0 hX0 HA HN4L HJL HALL ⊢
 clear hR hok
 go_enter Try.func11, Try.ntmps11
 go_upto_region 1 with fail
 change Code.wp _ _ _ _ (w.alloc (.cells #[.string snd, .int .u64 sq, .int .u64 gas, .int .u64 fee, .string memo, .slice a n c] 32))
 generalize w.alloc (.cells #[.string snd, .int .u64 sq, .int .u64 gas, .int .u64 fee, .string memo, .slice a n c] 32) = W at *
 obtain ⟨g0, hg0⟩ : ∃ g0, w.heap.size = g0 := ⟨_, rfl⟩
 have HB0 := Lib.hid hb0
 rw [hg0] at hX0
 simp only [hg0]
 have hgl := hX0.lt
 clear hb0 hg0 hn
 go_upto_region 1 with fail
 refine wl <| gz1 (.pointer (some ⟨g0, 0, none⟩)) <| gzl rfl ⟨g0, 0, none⟩ (.string snd) (hX0.load (i := 0) rfl (by kernel_rfl)) <|
  gze (fun v w' => ∃ qs, qs.map Prod.fst = List.map Prod.fst ([]) ++ l1 ∧ RowS w' W.heap.size v qs ∧ Below W.heap.size W w') ((HT1.out W (.slice none 0 0) ([]) W.heap.size (RowS.nil W W.heap.size) (Below.refl W.heap.size W).size (by simp)).mono fun e w' q => by obtain ⟨v, qs, h1, h2⟩ := q; exact ⟨v, h1, qs, h2⟩) (fun u1 V1 hq => ?_)
 simp only [pu]
 refine gz1 (u1) <| wn ?_
 simp only [pu]
 obtain ⟨q0, hq0, hO0, hb0⟩ := hq
 have hB0 := (Below.refl W.heap.size W).trans hb0
 have hX1 := hX0.below hgl hb0
 rw [List.map_nil, List.nil_append] at hq0
 have hl0 : q0.length ≤ 100000 := by have := congrArg List.length hq0; simp only [List.length_map, List.length_append] at this; have := HL1.out; have := HL2.out; have := HL3.out; have := HL4.out; omega
 clear hb0 hX0
 go_upto_region 2 with fail
 refine wl <| gz2 (u1) (.pointer (some ⟨g0, 1, none⟩)) <| gzl rfl ⟨g0, 1, none⟩ (.int .u64 sq) (hX1.load (i := 1) rfl (by kernel_rfl)) <|
  gze (fun v w' => ∃ qs, qs.map Prod.fst = List.map Prod.fst (q0) ++ l2 ∧ RowS w' W.heap.size v qs ∧ Below W.heap.size V1 w') ((HN2.out V1 (u1) (q0) W.heap.size hO0 hB0.size hl0).mono fun e w' q => by obtain ⟨v, qs, h1, h2⟩ := q; exact ⟨v, h1, qs, h2⟩) (fun u2 V2 hq => ?_)
 simp only [pu]
 refine gz1 (u2) <| wn ?_
 simp only [pu]
 obtain ⟨q1, hq1, hO1, hb1⟩ := hq
 have hB1 := hB0.trans hb1
 have hX2 := hX1.below hgl hb1
 rw [hq0] at hq1
 have hl1 : q1.length ≤ 100000 := by have := congrArg List.length hq1; simp only [List.length_map, List.length_append] at this; have := HL1.out; have := HL2.out; have := HL3.out; have := HL4.out; omega
 clear hb1 hX1 hO0 hB0
 go_upto_region 3 with fail
 refine wl <| gz2 (u2) (.pointer (some ⟨g0, 2, none⟩)) <| gzl rfl ⟨g0, 2, none⟩ (.int .u64 gas) (hX2.load (i := 2) rfl (by kernel_rfl)) <|
  gze (fun v w' => ∃ qs, qs.map Prod.fst = List.map Prod.fst (q1) ++ l3 ∧ RowS w' W.heap.size v qs ∧ Below W.heap.size V2 w') ((HN3.out V2 (u2) (q1) W.heap.size hO1 hB1.size hl1).mono fun e w' q => by obtain ⟨v, qs, h1, h2⟩ := q; exact ⟨v, h1, qs, h2⟩) (fun u3 V3 hq => ?_)
 simp only [pu]
 refine gz1 (u3) <| wn ?_
 simp only [pu]
 obtain ⟨q2, hq2, hO2, hb2⟩ := hq
 have hB2 := hB1.trans hb2
 have hX3 := hX2.below hgl hb2
 rw [hq1] at hq2
 have hl2 : q2.length ≤ 100000 := by have := congrArg List.length hq2; simp only [List.length_map, List.length_append] at this; have := HL1.out; have := HL2.out; have := HL3.out; have := HL4.out; omega
 clear hb2 hX2 hO1 hB1
 go_upto_region 4 with fail
 refine wl <| gz2 (u3) (.pointer (some ⟨g0, 3, none⟩)) <| gzl rfl ⟨g0, 3, none⟩ (.int .u64 fee) (hX3.load (i := 3) rfl (by kernel_rfl)) <|
  gze (fun v w' => ∃ qs, qs.map Prod.fst = List.map Prod.fst (q2) ++ l4 ∧ RowS w' W.heap.size v qs ∧ Below W.heap.size V3 w') ((HN4.out V3 (u3) (q2) W.heap.size hO2 hB2.size hl2).mono fun e w' q => by obtain ⟨v, qs, h1, h2⟩ := q; exact ⟨v, h1, qs, h2⟩) (fun u4 V4 hq => ?_)
 simp only [pu]
 refine gz1 (u4) <| wn ?_
 simp only [pu]
 obtain ⟨q3, hq3, hO3, hb3⟩ := hq
 have hB3 := hB2.trans hb3
 have hX4 := hX3.below hgl hb3
 rw [hq2] at hq3
 have hl3 : q3.length ≤ 100000 := by have := congrArg List.length hq3; simp only [List.length_map, List.length_append] at this; have := HL1.out; have := HL2.out; have := HL3.out; have := HL4.out; omega
 clear hb3 hX3 hO2 hB2
 go_upto_region 5 with fail
 refine wl <| gz2 (u4) (.pointer (some ⟨g0, 4, none⟩)) <| gzl rfl ⟨g0, 4, none⟩ (.string memo) (hX4.load (i := 4) rfl (by kernel_rfl)) <|
  gze (fun v w' => ∃ qs, qs.map Prod.fst = List.map Prod.fst (q3) ++ l5 ∧ RowS w' W.heap.size v qs ∧ Below W.heap.size V4 w') ((HT5.out V4 (u4) (q3) W.heap.size hO3 hB3.size hl3).mono fun e w' q => by obtain ⟨v, qs, h1, h2⟩ := q; exact ⟨v, h1, qs, h2⟩) (fun u5 V5 hq => ?_)
 simp only [pu]
 refine gz1 (u5) <| wn ?_
 simp only [pu]
 obtain ⟨q4, hq4, hO4, hb4⟩ := hq
 have hB4 := hB3.trans hb4
 have hX5 := hX4.below hgl hb4
 rw [hq3] at hq4
 clear hb4 hX4 hO3 hB3
 go_upto_region 6 with fail
 refine wl <| gz1 (.pointer (some ⟨g0, 5, none⟩)) <| gzl rfl ⟨g0, 5, none⟩ (.slice a n c) (hX5.load (i := 5) rfl (by kernel_rfl)) <| gz2 (.int .i64 n) (.int .i64 0) <| wn ?_
 simp only [pu]
 have HB5 := Lib.hid hB4
 have HQ5 : Hid (q4.map Prod.fst = TJ 0) := Lib.hid (by rw [hq4, HZ.out, HHD.out])
 have HO5 := Lib.hid hO4
 obtain ⟨p5, d5, rfl, -⟩ := HO5.out.form
 have hlw := HB0.out.size
 have HWW := Lib.hid hlw
 clear hO4 hB4 hX5 HT1 HN2 HN3 HN4 HT5 HHD HZ hq4 HL1 HL2 HL3 HL4 hlw hl0 hl1 hl2 hl3 hq0 hq1 hq2 hq3 hgl
 go_wp2_with fail
 go_loopg [3, 28] n (fun gg s3 s28 wx => ∃ (j : Nat) (p3 : Option Addr) (k3 d3 : Nat) (ps : List (Fld × Value)), s3 = .slice p3 k3 d3 ∧ s28 = .int .i64 j ∧ j ≤ n ∧ Hid (RowS wx W.heap.size (.slice p3 k3 d3) ps) ∧ Hid (ps.map Prod.fst = TJ j) ∧ Hid (Below W.heap.size V5 wx) ∧ n - j = gg)
 case atStart => exact ⟨0, p5, _, d5, q4, rfl, rfl, by omega, HO5, HQ5, Lib.hid (Below.refl _ _), by omega⟩
 case round =>
  obtain ⟨j, p3, k3, d3, ps, rfl, rfl, hj, HO, HQ, HB, hg⟩ := hrel
  clear HO5 HQ5
  by_cases hlt : j < n
  ·skip
   have HG : Hid (n - (j + 1) = gk - 1 ∧ 0 < gk ∧ j + 1 ≤ n ∧ j + 1 ≤ 100000) := Lib.hid ⟨by omega, by omega, by omega, by have := HN4L.out; omega⟩
   have hjm : j < M.length := by rw [HN.out]; exact hlt
   have hA5 := HA.out.below (HB5.out.trans HB.out)
   obtain ⟨b, off, rfl, -, hrx⟩ := tf_range hA5 (k := j) hjm
   have HLD := Lib.hid (load_tf hrx)
   have hwt := HWT.out j hjm
   have HSTJ := Lib.hid (HST.out j hjm)
   have hlps : ps.length ≤ 100000 := by have := congrArg List.length HQ.out; rw [List.length_map] at this; have := HJL.out j; have := HN4L.out; omega
   generalize tfa M j = y at *
   obtain ⟨V6, hst, hb6, hbx⟩ := new_tf wr y
   have HBW : Hid (W.heap.size ≤ wr.heap.size) := Lib.hid (Nat.le_trans (by have := HB5.out.size; omega) HB.out.size)
   have HB6 := Lib.hid (HB.out.trans (hb6.mono HBW.out))
   have HO6 := Lib.hid (HO.out.below hb6)
   have HW6 : Hid (W.heap.size ≤ V6.heap.size) := Lib.hid (Nat.le_trans HBW.out hb6.size)
   clear hrx hb6 hjm hg HO HB HWT HST HJL hA5
   go_upto_region 7 with fail
   refine wl <| gzb (lss_n rfl (j) (n) dT) <| wn ?_
   simp only [pu]
   go_upto_region 8 with fail
   refine wl <| gzv (.pointer (some ⟨b, off + j * 2, none⟩)) (idx_tf b off n c j hlt _ _ _ rfl (by kernel_rfl) (by kernel_rfl)) <| gzl rfl ⟨b, off + j * 2, none⟩ (.agg (tfA y)) (HLD.out) ?_
   simp only [pu]
   refine run_to rfl (some 5) rfl (.pointer (some ⟨wr.heap.size, 0, none⟩)) (wr.alloc (.cells (tfA zTf) 35)) (by kernel_rfl) ?_
   simp only [pu]
   refine gzs rfl (hst) <| wn ?_
   obtain ⟨g4, hg4⟩ : ∃ g4, wr.heap.size = g4 := ⟨_, rfl⟩
   rw [hg4] at hbx ⊢
   clear hst hg4 HLD
   have CT : ∀ V, Below V6.heap.size V6 V → Calls Try.prog 24 #[.slice none 0 0, .int .i64 1, .string y.1] V (FldS V V6.heap.size [] (tF 1 y.1)) := fun V hV => ref_text (.slice none 0 0) [] V6.heap.size 1 y.1 V (RowS.nil V _) hV.size (Nat.zero_le _)
   have CN : ∀ V u qs, Below V6.heap.size V6 V → RowS V V6.heap.size u qs → qs.map Prod.fst = tF 1 y.1 → Calls Try.prog 25 #[u, .int .i64 2, .int .u64 y.2] V (FldS V V6.heap.size qs (nF 2 y.2)) := fun V u qs hV hu hq => ref_number2 u qs V6.heap.size 2 y.2 V hu hV.size (by have := congrArg List.length hq; rw [List.length_map] at this; have := tF_len 1 y.1; omega)
   have CM : ∀ V u qs, Below V6.heap.size V6 V → RowS V V6.heap.size u qs → qs.map Prod.fst = trF y → Calls Try.prog 26 #[u] V (fun e w' => ∃ v, e = .returned v ∧ Own w' V6.heap.size v (msg (trF y)) ∧ Below V.heap.size V w') := fun V u qs hV hu hq => by
    obtain ⟨ua, uc, rfl, -, hfs⟩ := hu.fs
    have q1 := msg_trF y
    have := ref_message ua uc qs V hfs (flds_of hq (vf_tr (by omega) hwt.2)) (by rw [hq]; omega) (by
     have := congrArg List.length hq
     rw [List.length_map] at this
     have := tF_len 1 y.1
     have := nF_len 2 y.2
     unfold trF at *
     rw [List.length_append] at *
     omega)
    rw [hq] at this
    exact this.mono fun e w' q => by
     obtain ⟨v, h1, h2, h3⟩ := q
     exact ⟨v, h1, h2.base hV.size, h3⟩
   have hX : ∀ V, Below V6.heap.size V6 V → Bx V g4 (tfA y) 35 := fun V hV => hbx.below hbx.lt hV
   have h0 := KF.init (g5 := g4) (y := y) (R3 := .slice p3 k3 d3) (ps := ps) (x35 := u35) (x38 := u38) (x39 := u39) (x40 := u40) (x41 := u41) (x42 := u42) HW6.out
   clear hbx
   go_upto_region 9 with fail
   refine wp_region_inv (fun listed act9 V => ∃ b0 b1 b2 b3 b4 b5 b6 b7 b8 b9 b10 b11 : Bool, ∃ x35 x38 x39 x40 x41 x42 x3 : Value, listed = #[b0, b1, b2, b3, b4, b5, b6, b7, b8, b9, b10, b11] ∧ act9 = { tmps := #[.agg #[.string snd, .int .u64 sq, .int .u64 gas, .int .u64 fee, .string memo, .slice (some ⟨b, off, none⟩) n c], .pointer (some ⟨g0, 0, none⟩), .slice none 0 0, x3, undef, .pointer (some ⟨g4, 0, none⟩), .pointer (some ⟨g0, 0, none⟩), .string snd, u1, u1, .pointer (some ⟨g0, 1, none⟩), .int .u64 sq, u2, u2, .pointer (some ⟨g0, 2, none⟩), .int .u64 gas, u3, u3, .pointer (some ⟨g0, 3, none⟩), .int .u64 fee, u4, u4, .pointer (some ⟨g0, 4, none⟩), .string memo, .slice p5 q4.length d5, .pointer (some ⟨g0, 5, none⟩), .slice (some ⟨b, off, none⟩) n c, .int .i64 n, .int .i64 j, .bool true, .pointer (some ⟨b, off + j * 2, none⟩), .agg (tfA y), (cond b0 (.slice p3 k3 d3) (u32)), (cond b1 (.pointer (some ⟨g4, 0, none⟩)) (u33)), (cond b2 (.string y.1) (u34)), x35, (cond b4 (.pointer (some ⟨g4, 1, none⟩)) (u36)), (cond b5 (.int .u64 y.2) (u37)), x38, x39, x40, x41, x42, u43, undef, undef], defers := [] } ∧ KF V6 W.heap.size g4 y (.slice p3 k3 d3) ps b0 b2 b3 b5 b6 b7 b8 b9 b10 b11 x35 x38 x39 x40 x41 x42 x3 V) (by kernel_rfl) (by kernel_rfl) ?_ ?_ ?_
   ·exact ⟨false, false, false, false, false, false, false, false, false, false, false, false, u35, u38, u39, u40, u41, u42, .slice p3 k3 d3, rfl, rfl, h0⟩
   ·intro i9 listed act9 V hi9 hr hJ
    obtain ⟨b0, b1, b2, b3, b4, b5, b6, b7, b8, b9, b10, b11, x35, x38, x39, x40, x41, x42, x3, rfl, rfl, hF⟩ := hJ
    have hi2 : i9 < 12 := hi9
    have hi3 : i9 = 0 ∨ i9 = 1 ∨ i9 = 2 ∨ i9 = 3 ∨ i9 = 4 ∨ i9 = 5 ∨ i9 = 6 ∨ i9 = 7 ∨ i9 = 8 ∨ i9 = 9 ∨ i9 = 10 ∨ i9 = 11 := by omega
    rcases hi3 with rfl | rfl | rfl | rfl | rfl | rfl | rfl | rfl | rfl | rfl | rfl | rfl
    ·obtain rfl : b0 = false := ready_self hr
     obtain ⟨rfl, rfl, rfl, hF2⟩ := hF.s0
     refine st_val rfl (by kernel_rfl) (some 32) rfl (.slice p3 k3 d3) V (by kernel_rfl) ?_
     exact ⟨true, b1, b2, b3, b4, b5, b6, b7, b8, b9, false, false, x35, x38, x39, x40, x41, x42, _, rfl, rfl, hF2⟩
    ·obtain rfl : b1 = false := ready_self hr
     refine st_val rfl (by kernel_rfl) (some 33) rfl (.pointer (some ⟨g4, 0, none⟩)) V (by kernel_rfl) ?_
     exact ⟨b0, true, b2, b3, b4, b5, b6, b7, b8, b9, b10, b11, x35, x38, x39, x40, x41, x42, x3, rfl, rfl, hF⟩
    ·obtain rfl : b2 = false := ready_self hr
     obtain rfl : b1 = true := ready_dep hr 1 (by kernel_rfl)
     have h10 := (ff hF.o10 (ff hF.o9 (ff hF.o8 (ff hF.o7 (ff hF.o6 (ff hF.o3 rfl))))))
     refine st_load rfl (by kernel_rfl) (some 34) rfl 9 (.tmp 33) rfl ⟨g4, 0, none⟩ (.string y.1) (by kernel_rfl) ((hX V (hF.old h10)).load (i := 0) rfl (by kernel_rfl)) ?_
     exact ⟨b0, true, true, b3, b4, b5, b6, b7, b8, b9, b10, b11, x35, x38, x39, x40, x41, x42, x3, rfl, rfl, { hF with o3 := fun _ => rfl }⟩
    ·obtain rfl : b3 = false := ready_self hr
     obtain rfl : b2 = true := ready_dep hr 2 (by kernel_rfl)
     have h10 := (ff hF.o10 (ff hF.o9 (ff hF.o8 (ff hF.o7 (ff hF.o6 rfl)))))
     refine st_call rfl (by kernel_rfl) (some 35) rfl 24 #[.slice none 0 0, .int .i64 1, .string y.1] (by kernel_rfl) ((CT V (hF.old h10)).mono ?_)
     rintro e V2 ⟨v, qs, rfl, hq, hr, hb⟩
     exact ⟨v, rfl, b0, b1, true, true, b4, b5, b6, b7, b8, b9, b10, b11, v, x38, x39, x40, x41, x42, x3, rfl, rfl, hF.s3 HW6.out hr (by simpa using hq) (fun _ => rfl) hb⟩
    ·obtain rfl : b4 = false := ready_self hr
     refine st_val rfl (by kernel_rfl) (some 36) rfl (.pointer (some ⟨g4, 1, none⟩)) V (by kernel_rfl) ?_
     exact ⟨b0, b1, b2, b3, true, b5, b6, b7, b8, b9, b10, b11, x35, x38, x39, x40, x41, x42, x3, rfl, rfl, hF⟩
    ·obtain rfl : b5 = false := ready_self hr
     obtain rfl : b4 = true := ready_dep hr 4 (by kernel_rfl)
     have h10 := (ff hF.o10 (ff hF.o9 (ff hF.o8 (ff hF.o7 (ff hF.o5 rfl)))))
     refine st_load rfl (by kernel_rfl) (some 37) rfl 22 (.tmp 36) rfl ⟨g4, 1, none⟩ (.int .u64 y.2) (by kernel_rfl) ((hX V (hF.old h10)).load (i := 1) rfl (by kernel_rfl)) ?_
     exact ⟨b0, b1, b2, b3, true, true, b6, b7, b8, b9, b10, b11, x35, x38, x39, x40, x41, x42, x3, rfl, rfl, { hF with o5 := fun _ => rfl }⟩
    ·obtain rfl : b6 = false := ready_self hr
     obtain rfl : b3 = true := ready_dep hr 3 (by kernel_rfl)
     obtain rfl : b5 = true := ready_dep hr 5 (by kernel_rfl)
     have h10 := (ff hF.o10 (ff hF.o9 (ff hF.o8 (ff hF.o7 rfl))))
     obtain ⟨q35, hr35, hq35⟩ := hF.r35 rfl rfl
     refine st_call rfl (by kernel_rfl) (some 38) rfl 25 #[x35, .int .i64 2, .int .u64 y.2] (by kernel_rfl) ((CN V x35 q35 (hF.old h10) hr35 hq35).mono ?_)
     rintro e V2 ⟨v, qs, rfl, hq, hr, hb⟩
     exact ⟨v, rfl, b0, b1, b2, true, b4, true, true, b7, b8, b9, b10, b11, x35, v, x39, x40, x41, x42, x3, rfl, rfl, hF.s6 HW6.out hr (by rw [hq, hq35]; rfl) (fun _ => rfl) hb⟩
    ·obtain rfl : b7 = false := ready_self hr
     obtain rfl : b6 = true := ready_dep hr 6 (by kernel_rfl)
     have h10 := (ff hF.o10 (ff hF.o9 (ff hF.o8 rfl)))
     obtain ⟨q38, hr38, hq38⟩ := hF.r38 rfl rfl
     refine st_call rfl (by kernel_rfl) (some 39) rfl 26 #[x38] (by kernel_rfl) ((CM V x38 q38 (hF.old h10) hr38 hq38).mono ?_)
     rintro e V2 ⟨v, rfl, hO, hb⟩
     exact ⟨v, rfl, b0, b1, b2, b3, b4, b5, true, true, b8, b9, b10, b11, x35, x38, v, x40, x41, x42, x3, rfl, rfl, hF.s7 HW6.out hO hb⟩
    ·obtain rfl : b8 = false := ready_self hr
     obtain rfl : b7 = true := ready_dep hr 7 (by kernel_rfl)
     obtain ⟨a9, c9, rfl, hF2⟩ := hF.s8
     refine st_val rfl (by kernel_rfl) (some 40) rfl (.agg (fdA (tfF y) a9 c9)) V (by kernel_rfl) ?_
     exact ⟨b0, b1, b2, b3, b4, b5, b6, true, true, b9, b10, b11, x35, x38, _, _, x41, x42, x3, rfl, rfl, hF2⟩
    ·obtain rfl : b9 = false := ready_self hr
     obtain rfl : b8 = true := ready_dep hr 8 (by kernel_rfl)
     obtain ⟨a9, c9, rfl, hF2⟩ := hF.s9 HW6.out
     refine st_build rfl (by kernel_rfl) (some 41) rfl 61 1 #[(0, .tmp 40)] rfl #[(0, .agg (fdA (tfF y) a9 c9))] (by kernel_rfl) (.slice (some ⟨V.heap.size, 0, none⟩) 1 1) _ (build_fd (tfF y) a9 c9 V) ?_
     exact ⟨b0, b1, b2, b3, b4, b5, b6, b7, true, true, b10, b11, x35, x38, x39, _, _, x42, x3, rfl, rfl, hF2⟩
    ·obtain rfl : b10 = false := ready_self hr
     obtain rfl : b0 = true := ready_dep hr 0 (by kernel_rfl)
     obtain rfl : b9 = true := ready_dep hr 9 (by kernel_rfl)
     obtain ⟨a9, V2, v, -, hap, hF2⟩ := hF.s10 HO6.out HW6.out hlps
     refine st_append rfl (by kernel_rfl) (some 42) rfl 61 rfl (.tmp 32) (.tmp 41) 61 rfl (.slice p3 k3 d3) x41 v V2 (by kernel_rfl) (by kernel_rfl) hap ?_
     exact ⟨true, b1, b2, b3, b4, b5, b6, b7, b8, true, true, b11, x35, x38, x39, x40, x41, v, x3, rfl, rfl, hF2⟩
    ·obtain rfl : b11 = false := ready_self hr
     obtain rfl : b10 = true := ready_dep hr 10 (by kernel_rfl)
     refine st_val rfl (by kernel_rfl) (some 3) rfl x42 V (by kernel_rfl) ?_
     exact ⟨b0, b1, b2, b3, b4, b5, b6, b7, b8, b9, true, true, x35, x38, x39, x40, x41, x42, x42, rfl, rfl, hF.s11⟩
   ·intro act9 V hJ
    obtain ⟨b0, b1, b2, b3, b4, b5, b6, b7, b8, b9, b10, b11, x35, x38, x39, x40, x41, x42, x3, he, rfl, hF⟩ := hJ
    have he : (#[true, true, true, true, true, true, true, true, true, true, true, true] : Array Bool) = #[b0, b1, b2, b3, b4, b5, b6, b7, b8, b9, b10, b11] := he
    simp only [Array.mk.injEq, List.cons.injEq, and_true] at he
    obtain ⟨rfl, rfl, rfl, rfl, rfl, rfl, rfl, rfl, rfl, rfl, rfl, rfl⟩ := he
    simp only [cond_true]
    obtain ⟨qs, hrow, hqs⟩ := hF.d3 rfl
    have HB8 := Lib.hid (HB6.out.trans hF.bel)
    have HO8 := Lib.hid hrow
    obtain ⟨b8, d8, rfl, -⟩ := hrow.form
    have HQ8 : Hid (qs.map Prod.fst = TJ (j + 1)) := Lib.hid (by rw [hqs, HQ.out, HSTJ.out])
    clear hF hrow hqs HQ HSTJ h0 CT CN CM hX HB6 HO6 hwt hlps
    go_upto_region 10 with fail
    refine wl <| gzv (.int .i64 (j + 1 : Nat)) (add_one rfl j (by have := HG.out; omega) (by kernel_rfl) _) <| gz1 (.int .i64 (j + 1 : Nat)) <| wn ?_
    simp only [pu]
    go_wp2_with fail
    go_roundg (gk - 1)
    case measure => have := HG.out; omega
    case rel => exact ⟨j + 1, b8, _, d8, qs, rfl, rfl, HG.out.2.2.1, HO8, HQ8, HB8, HG.out.1⟩
  ·skip
   have hqx : ps.map Prod.fst = TXF := by rw [HQ.out, HALL.out j (by omega)]
   obtain ⟨ua, uc, e3, -, hfs⟩ := HO.out.fs
   simp only [Value.slice.injEq] at e3
   obtain ⟨rfl, rfl, rfl⟩ := e3
   have CM := ref_message p3 d3 ps wr hfs (flds_of hqx HVF.out) (by rw [hqx]; exact HFL.out) (by have := congrArg List.length HQ.out; rw [List.length_map] at this; have := HJL.out j; have := HN4L.out; omega)
   rw [hqx] at CM
   have HBW : Hid (W.heap.size ≤ wr.heap.size) := Lib.hid (Nat.le_trans (by have := HB5.out.size; omega) HB.out.size)
   have HBB := Lib.hid (HB5.out.trans HB.out)
   clear HO HQ HB hg HALL HWT HST HJL hqx hfs HVF HFL
   go_upto_region 7 with fail
   refine wl <| gzb (lss_n rfl (j) (n) dF) <| wn ?_
   simp only [pu]
   go_upto_region 11 with fail
   refine wl <| gz1 (.slice p3 ps.length d3) <| gze (fun v w' => Own w' wr.heap.size v (msg TXF) ∧ Below wr.heap.size wr w') CM (fun u9 V9 hq => ?_)
   simp only [pu]
   refine gz1 (u9) <| wn ?_
   simp only [pu]
   have HE := Lib.hid (⟨u9, rfl, by rw [HFO.out]; exact hq.1.base (Nat.le_trans HB0.out.size HBW.out), HB0.out.trans ((HBB.out.trans (hq.2.mono HBW.out)).mono HB0.out.size)⟩ : OwnO w w.heap.size FO (.returned u9) V9)
   clear hq CM HBB HBW HFO
   go_wp2_with fail
   go_ret
   exact HE.out
end Go.Proofs.Ytglglhcnofbagaa
namespace Go.Proofs.Ytglglhcnofbagaa
attribute [local irreducible] wpList wpQuiet
open Go.RowKit
set_option linter.unusedSimpArgs false
set_option linter.unusedVariables false

/-- The numbers are words, the strings fit into a memory. -/
structure TxB (t : Txd) : Prop where
 sq : W64 t.sq
 gas : W64 t.gas
 fee : W64 t.fee
 am : ∀ x, x ∈ t.tr → W64 x.2
 s1 : t.snd.size ≤ 140737488355328
 s2 : t.memo.size ≤ 140737488355328
 s3 : ∀ x, x ∈ t.tr → x.1.size ≤ 140737488355328
theorem OkX.b {t : Txd} (h : OkX t) : TxB t := ⟨h.sq, h.gas, h.fee, h.am, by have := h.wt; unfold wtX at this; omega, by have := h.wt; unfold wtX at this; omega, fun x hx => by have := (h.tr hx).1; omega⟩
def EncO (w : World) (t : Txd) (e : Ending) (w' : World) : Prop := ∃ v, e = .returned (.tuple #[v, .int .i64 (encX t).2]) ∧ Own w' w.heap.size v (encX t).1 ∧ Below w.heap.size w w'
theorem tx_range {w : World} {g k : Nat} {x : Txd} {a : Option Addr} {c : Nat} (h : Bx w g (txA x a c) k) : w.rangeAt g 0 (txA x a c).toList := fun j v hv => by
 rw [cell_of_row w g _ _ _ (0, 0) h]
 simpa using hv
theorem load_txb {w : World} {g k : Nat} {x : Txd} {a : Option Addr} {c : Nat} (h : Bx w g (txA x a c) k) : (Instr.loadAt 32 (.pointer (some ⟨g, 0, none⟩))).run Try.prog w = .ok (.agg (txA x a c)) w :=
 run_loadAt_mid w g 0 32 _ _ (tx_range h) Try.underlying32 rfl (by kernel_rfl)
theorem neq_e {ρ : Operand → Value} {o : Oper} {x y : Operand} (ho : o.op = .binOp .neq 36 x y 36) (a b : Int) {t : Bool} (ht : decide (a = b) = t) (hx : ρ x = .int .i64 a) (hy : ρ y = .int .i64 b) (w : World) : (execOp ρ o).run Try.prog w = .ok (.value (.bool (!t))) w := by
 have e : (a != b) = !t := by rw [← ht]; rfl
 unfold execOp
 simp only [ho, hx, hy]
 go_simp
theorem eql_e {ρ : Operand → Value} {o : Oper} {x y : Operand} (ho : o.op = .binOp .eql 36 x y 36) (a b : Int) {t : Bool} (ht : decide (a = b) = t) (hx : ρ x = .int .i64 a) (hy : ρ y = .int .i64 b) (w : World) : (execOp ρ o).run Try.prog w = .ok (.value (.bool t)) w := by
 have e : (a == b) = t := ht
 unfold execOp
 simp only [ho, hx, hy]
 go_simp
set_option maxRecDepth 100000 in
set_option maxHeartbeats 8000000 in
theorem ref_encode (x : Txd) (a : Option Addr) (c : Nat) (w : World) (hR : Cs w a (tfc x.tr)) (h2 : TxB x) :
  Calls Try.prog 5 #[.agg (txA x a c)] w (EncO w x) := by
 have hb0 : Below w.heap.size w (w.alloc (.cells (txA x a c) 32)) := (Below.refl _ w).alloc (Nat.le_refl _) _
 have hX0 : Bx (w.alloc (.cells (txA x a c) 32)) w.heap.size (txA x a c) 32 := heap_alloc_last w _
 have HA := Lib.hid (hR.below hb0)
 have CV := Lib.hid (fun V (h1 : Cs V a (tfc x.tr)) => ref_validate x a c V h1 h2.s1 h2.s2 h2.s3)
 have CW := Lib.hid (fun V (h1 : Cs V a (tfc x.tr)) (hv : valX x = 0) => have hok := (val_ok hv h2.sq h2.gas h2.fee h2.am).1; ref_form x a c V h1 hok)
 have HE1 : Hid (valX x ≠ 0 → encX x = ([], valX x)) := Lib.hid fun h => by unfold encX; rw [if_pos h]
 have HE2 : Hid (valX x = 0 → 4096 < (form x).length → encX x = ([], 3)) := Lib.hid fun h h3 => by unfold encX; rw [if_neg (by rw [h]; decide), if_pos h3]
 have HE3 : Hid (valX x = 0 → ¬ 4096 < (form x).length → encX x = (form x, 0)) := Lib.hid fun h h3 => by unfold encX; rw [if_neg (by rw [h]; decide), if_neg h3]
 have HEO : Hid (∀ v V r, encX x = r → Own V w.heap.size v r.1 → Below w.heap.size w V → EncO w x (.returned (.tuple #[v, .int .i64 r.2])) V) := Lib.hid fun v V r h1 h3 h4 => ⟨v, by rw [h1], by rw [h1]; exact h3, h4⟩
 generalize encX x = EX at *
 generalize valX x = vx at *
 generalize form x = FO at *
 clear hR h2
 go_enter Try.func5, Try.ntmps5
 go_upto_region 1 with fail
 change Code.wp _ _ _ _ (w.alloc (.cells (txA x a c) 32))
 generalize w.alloc (.cells (txA x a c) 32) = W at *
 obtain ⟨g0, hg0⟩ : ∃ g0, w.heap.size = g0 := ⟨_, rfl⟩
 have HB0 := Lib.hid hb0
 rw [hg0] at hX0
 simp only [hg0]
 have CVW := CV.out W HA.out
 clear hb0 hg0 CV
 refine wl <| gzl rfl ⟨g0, 0, none⟩ (.agg (txA x a c)) (load_txb hX0) <| gzc (.int .i64 vx) (fun w' => Below W.heap.size W w') CVW (fun V hV => ?_)
 simp only [pu]
 refine gz1 (.int .i64 vx) <| wn ?_
 simp only [pu]
 have hX1 := hX0.below hX0.lt hV
 have HB1 := Lib.hid (HB0.out.trans (hV.mono HB0.out.size))
 have HA1 := Lib.hid (HA.out.below hV)
 clear hV CVW hX0 HB0 HA
 go_upto_region 2 with fail
 by_cases hv : vx = 0
 ·skip
  have CWV := CW.out V HA1.out hv
  clear CW
  refine wl <| gz1 (.int .i64 vx) <| gzb (neq_e rfl vx 0 (decide_eq_true hv)) <| wn ?_
  simp only [pu]
  go_upto_region 4 with fail
  refine wl <| gzl rfl ⟨g0, 0, none⟩ (.agg (txA x a c)) (load_txb hX1) <| gze (fun v w' => Own w' V.heap.size v FO ∧ Below V.heap.size V w') CWV (fun u U hq => ?_)
  obtain ⟨hO, hb⟩ := hq
  obtain ⟨b5, d5, rfl, -, -⟩ := hO.sl
  simp only [pu]
  refine gz1 (.slice b5 FO.length d5) <| wn ?_
  simp only [pu]
  have HB2 := Lib.hid (HB1.out.trans (hb.mono HB1.out.size))
  have HO := Lib.hid (hO.base HB1.out.size)
  clear hO hb CWV hX1 HA1 HB1
  go_upto_region 5 with fail
  by_cases hl : 4096 < FO.length
  ·skip
   have HE := Lib.hid (HEO.out (.slice none 0 0) U _ (HE2.out hv hl) (Own.nil _ _) HB2.out)
   clear HEO HE1 HE2 HE3 HO HB2
   refine wl <| gz2 (.slice b5 FO.length d5) (.int .i64 FO.length) <| gzb (gtr_n rfl (FO.length) (4096) dT) <| wn ?_
   simp only [pu]
   go_upto_region 6 with fail
   refine wl <| gz2 (.slice none 0 0) (.int .i64 3) <| wn ?_
   simp only [pu]
   go_wp2_with fail
   go_ret2
   exact HE.out
  ·skip
   have HE := Lib.hid (HEO.out (.slice b5 FO.length d5) U _ (HE3.out hv hl) HO.out HB2.out)
   clear HEO HE1 HE2 HE3 HO HB2
   refine wl <| gz2 (.slice b5 FO.length d5) (.int .i64 FO.length) <| gzb (gtr_n rfl (FO.length) (4096) dF) <| wn ?_
   simp only [pu]
   go_upto_region 7 with fail
   refine wl <| gz3 (.slice b5 FO.length d5) (.slice b5 FO.length d5) (.int .i64 0) <| wn ?_
   simp only [pu]
   go_wp2_with fail
   go_ret2
   exact HE.out
 ·skip
  have HE := Lib.hid (HEO.out (.slice none 0 0) V _ (HE1.out hv) (Own.nil _ _) HB1.out)
  clear HEO HE1 HE2 HE3 HA1 HB1 CW hX1
  refine wl <| gz1 (.int .i64 vx) <| gzb (neq_e rfl vx 0 (decide_eq_false hv)) <| wn ?_
  simp only [pu]
  go_upto_region 3 with fail
  refine wl <| gz3 (.int .i64 vx) (.slice none 0 0) (.int .i64 vx) <| wn ?_
  simp only [pu]
  go_wp2_with fail
  go_ret2
  exact HE.out
end Go.Proofs.Ytglglhcnofbagaa
