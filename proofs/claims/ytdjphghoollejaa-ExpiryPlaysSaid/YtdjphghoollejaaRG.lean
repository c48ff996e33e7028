/-
 Rows that a drawn region builds; the reference's AddWait and RemoveWait: contracts.
-/
import Derived.Test.YtdjphghoollejaaAR
namespace Go.Proofs.Ytdjphghoollejaa
attribute [local irreducible] wpList wpQuiet
open Go.RowKit
set_option maxRecDepth 100000
set_option linter.unusedSimpArgs false
set_option linter.unusedVariables false

def Row (V0 V : World) (x : Value) (L : List Wt) : Prop := V.ownsRow V0.heap.size 41 3 x L.length (wtcs L)
theorem Row.below {V0 V V2 : World} {x : Value} {L : List Wt} (h : Row V0 V x L) (hb : Below V.heap.size V V2) : Row V0 V2 x L := own_below h hb
/-- A row of keys is appended: where the new row lies. -/
theorem Row.app {V0 V : World} {x : Value} {L : List Wt} (h : Row V0 V x L) (hV : V0.heap.size ≤ V.heap.size) (pa : Option Addr) (m cp : Nat) (P : List Wt) (hP : Cs V pa (wtcs P)) (hm : P.length = m) (hl : L.length ≤ 100000) (hp : m ≤ 100000) :
  ∃ v V2, (Builtin.append_ #[30, 30] 30 #[x, .slice pa m cp]).run Try.prog V = .ok v V2 ∧ Row V0 V2 v (L ++ P) ∧ Below V0.heap.size V V2 ∧ V.grownBy V2 x.ownBlock ∧ (v.ownBlock = x.ownBlock ∨ v.ownBlock = some V.heap.size) := app_wt h hV pa m cp P hP hm hl hp
/-- What a region keeps that builds a row of keys in up to three steps; and a slice of one key beside it. -/
structure CH (V0 : World) (k : Wt) (L1 L2 L3 : List Wt) (b0 b1 b2 b3 bk : Bool) (x0 x1 x2 x3 xk : Value) (V : World) : Prop where
 bel : Below V0.heap.size V0 V
 r0 : b0 = true → b1 = false → Row V0 V x0 []
 r1 : b1 = true → b2 = false → Row V0 V x1 L1
 r2 : b2 = true → b3 = false → Row V0 V x2 L2
 r3 : b3 = true → Row V0 V x3 L3
 c1 : b1 = true → b0 = true
 c2 : b2 = true → b1 = true
 c3 : b3 = true → b2 = true
 kx : bk = true → ∃ g, xk = .slice (some ⟨g, 0, none⟩) 1 1 ∧ Bx V g (wtA k) 41 ∧ (b0 = true → b1 = false → x0.ownBlock ≠ some g) ∧ (b1 = true → b2 = false → x1.ownBlock ≠ some g) ∧ (b2 = true → b3 = false → x2.ownBlock ≠ some g)
section
variable {V0 V V2 : World} {k : Wt} {L1 L2 L3 : List Wt} {b0 b1 b2 b3 bk : Bool} {x0 x1 x2 x3 xk v : Value}
theorem Row.ne {x : Value} {L : List Wt} (h : Row V0 V x L) : x.ownBlock ≠ some V.heap.size := fun e => Nat.lt_irrefl _ (h.lt _ e).2
theorem CH.nil (h : CH V0 k L1 L2 L3 false false false false bk x0 x1 x2 x3 xk V) : CH V0 k L1 L2 L3 true false false false bk (.slice (some ⟨V.heap.size, 0, none⟩) 0 0) x1 x2 x3 xk (V.alloc (.cells #[] 41)) :=
 have hb : Below V.heap.size V (V.alloc (.cells #[] 41)) := (Below.refl _ V).alloc (Nat.le_refl _) _
 {bel := h.bel.trans (hb.mono h.bel.size), r0 := fun _ _ => own_base (own_nil V 41 3) h.bel.size, r1 := fun h1 => (by cases h1), r2 := fun h1 => (by cases h1), r3 := fun h1 => (by cases h1), c1 := fun h1 => (by cases h1), c2 := fun h1 => (by cases h1), c3 := fun h1 => (by cases h1)
  kx := fun hk => by
   obtain ⟨g, e, hx, -⟩ := h.kx hk
   exact ⟨g, e, hx.below hx.lt hb, fun _ _ e2 => by have := hx.lt; simp only [Value.ownBlock, Option.some.injEq] at e2; omega, fun h1 => (by cases h1), fun h1 => (by cases h1)⟩ }
theorem CH.key (h : CH V0 k L1 L2 L3 b0 b1 b2 b3 false x0 x1 x2 x3 xk V) : CH V0 k L1 L2 L3 b0 b1 b2 b3 true x0 x1 x2 x3 (.slice (some ⟨V.heap.size, 0, none⟩) 1 1) (V.alloc (.cells (wtA k) 41)) :=
 have hb : Below V.heap.size V (V.alloc (.cells (wtA k) 41)) := (Below.refl _ V).alloc (Nat.le_refl _) _
 {bel := h.bel.trans (hb.mono h.bel.size), r0 := fun h1 h2 => (h.r0 h1 h2).below hb, r1 := fun h1 h2 => (h.r1 h1 h2).below hb, r2 := fun h1 h2 => (h.r2 h1 h2).below hb, r3 := fun h1 => (h.r3 h1).below hb, c1 := h.c1, c2 := h.c2, c3 := h.c3
  kx := fun _ => ⟨V.heap.size, rfl, heap_alloc_last V _, fun h1 h2 => (h.r0 h1 h2).ne, fun h1 h2 => (h.r1 h1 h2).ne, fun h1 h2 => (h.r2 h1 h2).ne⟩ }
theorem kx_grown {g : Nat} {x y : Value} (hx : Bx V g (wtA k) 41) (hn : x.ownBlock ≠ some g) (hg : V.grownBy V2 x.ownBlock) (hat : y.ownBlock = x.ownBlock ∨ y.ownBlock = some V.heap.size) : Bx V2 g (wtA k) 41 ∧ y.ownBlock ≠ some g :=
 ⟨(hg.block g hx.lt (Ne.symm hn)).trans hx, fun e => hat.elim (fun h => hn (h.symm.trans e)) fun h => by
  have h2 := h.symm.trans e
  have := hx.lt
  simp only [Option.some.injEq] at h2
  omega⟩
theorem CH.one (h : CH V0 k L1 L2 L3 true false false false bk x0 x1 x2 x3 xk V) (hO : Row V0 V2 v L1) (hb : Below V0.heap.size V V2) (hg : V.grownBy V2 x0.ownBlock) (hat : v.ownBlock = x0.ownBlock ∨ v.ownBlock = some V.heap.size) : CH V0 k L1 L2 L3 true true false false bk x0 v x2 x3 xk V2 :=
 {bel := h.bel.trans hb, r0 := fun _ h1 => (by cases h1), r1 := fun _ _ => hO, r2 := fun h1 => (by cases h1), r3 := fun h1 => (by cases h1), c1 := fun _ => rfl, c2 := fun h1 => (by cases h1), c3 := fun h1 => (by cases h1)
  kx := fun hk => by
   obtain ⟨g, e, hx, h0, -⟩ := h.kx hk
   obtain ⟨h1, h2⟩ := kx_grown hx (h0 rfl rfl) hg hat
   exact ⟨g, e, h1, fun _ h3 => (by cases h3), fun _ _ => h2, fun h3 => (by cases h3)⟩ }
theorem CH.two (h : CH V0 k L1 L2 L3 b0 true false false bk x0 x1 x2 x3 xk V) (hO : Row V0 V2 v L2) (hb : Below V0.heap.size V V2) (hg : V.grownBy V2 x1.ownBlock) (hat : v.ownBlock = x1.ownBlock ∨ v.ownBlock = some V.heap.size) : CH V0 k L1 L2 L3 b0 true true false bk x0 x1 v x3 xk V2 :=
 {bel := h.bel.trans hb, r0 := fun _ h1 => (by cases h1), r1 := fun _ h1 => (by cases h1), r2 := fun _ _ => hO, r3 := fun h1 => (by cases h1), c1 := h.c1, c2 := fun _ => rfl, c3 := fun h1 => (by cases h1)
  kx := fun hk => by
   obtain ⟨g, e, hx, -, h0, -⟩ := h.kx hk
   obtain ⟨h1, h2⟩ := kx_grown hx (h0 rfl rfl) hg hat
   exact ⟨g, e, h1, fun _ h3 => (by cases h3), fun _ h3 => (by cases h3), fun _ _ => h2⟩ }
theorem CH.three (h : CH V0 k L1 L2 L3 b0 b1 true false bk x0 x1 x2 x3 xk V) (hO : Row V0 V2 v L3) (hb : Below V0.heap.size V V2) (hg : V.grownBy V2 x2.ownBlock) (hat : v.ownBlock = x2.ownBlock ∨ v.ownBlock = some V.heap.size) : CH V0 k L1 L2 L3 b0 b1 true true bk x0 x1 x2 v xk V2 :=
 have hb1 := h.c2 rfl
 {bel := h.bel.trans hb, r0 := fun _ h1 => (by rw [hb1] at h1; cases h1), r1 := fun _ h1 => (by cases h1), r2 := fun _ h1 => (by cases h1), r3 := fun _ => hO, c1 := h.c1, c2 := h.c2, c3 := fun _ => rfl
  kx := fun hk => by
   obtain ⟨g, e, hx, -, -, h0⟩ := h.kx hk
   obtain ⟨h1, h2⟩ := kx_grown hx (h0 rfl rfl) hg hat
   exact ⟨g, e, h1, fun _ h3 => (by rw [hb1] at h3; cases h3), fun _ h3 => (by cases h3), fun _ h3 => (by cases h3)⟩ }
theorem CH.start (V0 : World) (k : Wt) (L1 L2 L3 : List Wt) (x0 x1 x2 x3 xk : Value) : CH V0 k L1 L2 L3 false false false false false x0 x1 x2 x3 xk { V0 with drawn := V0.drawn + 1 } :=
 {bel := (Below.refl _ V0).drew, r0 := fun h1 => (by cases h1), r1 := fun h1 => (by cases h1), r2 := fun h1 => (by cases h1), r3 := fun h1 => (by cases h1), c1 := fun h1 => (by cases h1), c2 := fun h1 => (by cases h1), c3 := fun h1 => (by cases h1), kx := fun h1 => (by cases h1) }
end
section
variable {M : List Wt} {k : Int} {i : Nat}
theorem take_one (hi : i < M.length) : M.take (i + 1) = M.take i ++ [M.getD i zwt] := by
 rw [List.take_add_one, List.getElem?_eq_getElem hi, Option.toList_some, getD_lt M i zwt hi]
theorem drop_one (hi : i < M.length) : M.drop i = M.getD i zwt :: M.drop (i + 1) := by rw [getD_lt M i zwt hi, ← List.drop_eq_getElem_cons hi]
theorem has_step (hi : i < M.length) : hasW (M.take (i + 1)) k = (hasW (M.take i) k || decide ((M.getD i zwt).1 = k)) := by
 rw [take_one hi, has_app]
 congr 1
 unfold hasW
 simp
theorem has_hit (hi : i < M.length) (h : (M.getD i zwt).1 = k) : hasW M k = true := by
 unfold hasW
 rw [List.any_eq_true]
 exact ⟨_, by rw [getD_lt M i zwt hi]; exact List.getElem_mem hi, decide_eq_true h⟩
theorem pos_last : ∀ (A : List Wt) (x : Wt) (j p : Nat), posW k (A ++ [x]) j p = if x.1 < k then j + A.length + 1 else posW k A j p
 | [], x, j, p => by
  rw [List.nil_append, posW, posW, posW]
  rfl
 | y :: r, x, j, p => by
  rw [List.cons_append, posW, pos_last r x, posW, List.length_cons, show j + 1 + r.length + 1 = j + (r.length + 1) + 1 by omega]
theorem pos_step (hi : i < M.length) : posW k (M.take (i + 1)) 0 0 = if (M.getD i zwt).1 < k then i + 1 else posW k (M.take i) 0 0 := by
 rw [take_one hi, pos_last, List.length_take, Nat.min_eq_left (by omega), Nat.zero_add]
theorem pos_le : ∀ (A : List Wt) (j p : Nat), p ≤ j → posW k A j p ≤ j + A.length
 | [], j, p, h => h
 | y :: r, j, p, h => by
  rw [posW, List.length_cons]
  have := pos_le r (j + 1) (if y.1 < k then j + 1 else p) (by split <;> omega)
  omega
theorem rem_hit (hi : i < M.length) (h0 : hasW (M.take i) k = false) (h : (M.getD i zwt).1 = k) : remW k M = M.take i ++ M.drop (i + 1) := by
 have e : M = M.take i ++ M.getD i zwt :: M.drop (i + 1) := by
  rw [← drop_one hi, List.take_append_drop]
 have hA : ∀ (A B : List Wt), hasW A k = false → remW k (A ++ B) = A ++ remW k B := by
  intro A B
  induction A with
  | nil => intro _; rfl
  | cons x r ih =>
   intro hh
   unfold hasW at hh
   rw [List.any_cons, Bool.or_eq_false_iff] at hh
   rw [List.cons_append, remW, if_neg (by simpa using hh.1), ih hh.2]
   rfl
 conv => lhs; rw [e]
 rw [hA _ _ h0, remW, if_pos h]
end
/-- What the reference's functions on rows answer. -/
def RwO (w : World) (al : Option Addr) (M M2 : List Wt) (b : Bool) (e : Ending) (w' : World) : Prop := ∃ a2 c2, e = .returned (.tuple #[.slice a2 M2.length c2, .bool b]) ∧ Cs w' a2 (wtcs M2) ∧ M2.length ≤ c2 ∧ (∀ k, rb a2 (wtcs M2) k → rb al (wtcs M) k ∨ w.heap.size ≤ k) ∧ Below w.heap.size w w'
theorem RwO.new {w V : World} {al : Option Addr} {M M2 : List Wt} {b : Bool} {v : Value} (h : Rowwt V w.heap.size v M2) (hb : Below w.heap.size w V) : RwO w al M M2 b (.returned (.tuple #[v, .bool b])) V := by
 obtain ⟨a2, c2, rfl, h1, h2⟩ := h.cs
 exact ⟨a2, c2, rfl, h1, h2, fun k hk => .inr (own_rb' h hk), hb⟩
set_option maxRecDepth 100000 in
set_option maxHeartbeats 8000000 in
theorem r_add {w : World} {al : Option Addr} {c : Nat} {M : List Wt} (hR0 : Cs w al (wtcs M)) (hcc : M.length ≤ c) (hl : M.length ≤ 1000) (z : Wt) : Calls Try.prog 17 #[.slice al M.length c, .agg (wtA z)] w (RwO w al M (addW M z) (!hasW M z.1)) := by
 have hb0 : Below w.heap.size w (w.alloc (.cells (wtA z) 41)) := (Below.refl _ w).alloc (Nat.le_refl _) _
 have hX0 : Bx (w.alloc (.cells (wtA z) 41)) w.heap.size (wtA z) 41 := heap_alloc_last w _
 obtain ⟨W, hW⟩ : ∃ W, w.alloc (.cells (wtA z) 41) = W := ⟨_, rfl⟩
 rw [hW] at hb0 hX0
 have hR := hR0.below hb0
 have HRG : Hid (∀ V, Below W.heap.size W V → ∀ i, i < M.length → ∃ b off, al = some ⟨b, off, none⟩ ∧ V.rangeAt b (off + i * 3) (wtl (M.getD i zwt))) := Lib.hid fun V hV i hi => by
  obtain ⟨b, off, h1, -, h2⟩ := wt_rg (hR.below hV) hi
  exact ⟨b, off, h1, h2⟩
 have HOLD : Hid (∀ V, Below W.heap.size W V → hasW M z.1 = true → RwO w al M (addW M z) (!hasW M z.1) (.returned (.tuple #[.slice al M.length c, .bool false])) V) := Lib.hid fun V hV h => by
  rw [add_no h, h]
  exact ⟨al, c, rfl, hR.below hV, hcc, fun k hk => .inl hk, hb0.trans (hV.mono hb0.size)⟩
 have HNEW : Hid (∀ V v, Below W.heap.size W V → hasW M z.1 = false → Rowwt V w.heap.size v (M.take (posW z.1 M 0 0) ++ [z] ++ M.drop (posW z.1 M 0 0)) → RwO w al M (addW M z) (!hasW M z.1) (.returned (.tuple #[v, .bool true])) V) := Lib.hid fun V v hV h hv => by
  have e : addW M z = M.take (posW z.1 M 0 0) ++ [z] ++ M.drop (posW z.1 M 0 0) := by unfold addW; rw [if_neg (by rw [h]; exact Bool.false_ne_true)]
  rw [e, h]
  exact RwO.new hv (hb0.trans (hV.mono hb0.size))
 have HMR := Lib.hid (fun V (hV : Below W.heap.size W V) => hR.below hV)
 have HAS : Hid (∀ i, i < M.length → hasW (M.take (i + 1)) z.1 = (hasW (M.take i) z.1 || decide ((M.getD i zwt).1 = z.1))) := Lib.hid fun i hi => has_step hi
 have HHI : Hid (∀ i, i < M.length → (M.getD i zwt).1 = z.1 → hasW M z.1 = true) := Lib.hid fun i hi h => has_hit hi h
 have HPS : Hid (∀ i, i < M.length → posW z.1 (M.take (i + 1)) 0 0 = if (M.getD i zwt).1 < z.1 then i + 1 else posW z.1 (M.take i) 0 0) := Lib.hid fun i hi => pos_step hi
 have HPL : Hid (∀ i, posW z.1 (M.take i) 0 0 ≤ i) := Lib.hid fun i => by have := pos_le (k := z.1) (M.take i) 0 0 (Nat.le_refl 0); rw [List.length_take] at this; omega
 have HWS : Hid (w.heap.size ≤ W.heap.size) := Lib.hid hb0.size
 obtain ⟨n, hn⟩ : ∃ n, M.length = n := ⟨_, rfl⟩
 have HN := Lib.hid hn
 obtain ⟨PO, hPO⟩ : ∃ PO, RwO w al M (addW M z) (!hasW M z.1) = PO := ⟨_, rfl⟩
 rw [hPO] at HOLD HNEW ⊢
 rw [hn] at HRG HOLD HAS HHI HPS hl hcc ⊢
 clear hR hR0 hn hPO hb0
 go_enter Try.func17, Try.ntmps17
 go_upto_region 1 with fail
 obtain ⟨g3, hg3⟩ : ∃ g3, w.heap.size = g3 := ⟨_, rfl⟩
 rw [hg3] at hX0
 simp only [hg3]
 have HX0 := Lib.hid hX0
 have HG3 := Lib.hid hg3
 clear hW hX0 hg3
 refine wl <| gz1 (.int .i64 0) <| wn ?_
 simp only [pu]
 go_upto_region 2 with fail
 refine wl <| gz3 (.slice al n c) (.int .i64 n) (.int .i64 0) <| wn ?_
 simp only [pu]
 go_wp2_with fail
 go_loopg [6, 11] n (fun gg s6 s11 wx => ∃ (i p : Nat), s11 = .int .i64 i ∧ s6 = .int .i64 p ∧ i ≤ n ∧ gg + i = n ∧ Hid (posW z.1 (M.take i) 0 0 = p ∧ hasW (M.take i) z.1 = false) ∧ Hid (Below W.heap.size W wx))
 case atStart => exact ⟨0, 0, rfl, rfl, by omega, by omega, Lib.hid ⟨rfl, rfl⟩, Lib.hid (Below.refl _ _)⟩
 case round =>
  obtain ⟨i, p, rfl, rfl, hin, hg, HP, HR⟩ := hrel
  have HGK : Hid (gk + i = n) := Lib.hid hg
  clear hg
  by_cases hlt : i < n
  ·skip
   obtain ⟨b, off, hbb, hrg⟩ := HRG.out wr HR.out i hlt
   obtain rfl := hbb
   obtain ⟨x, hx⟩ : ∃ x, M.getD i zwt = x := ⟨_, rfl⟩
   rw [hx] at hrg
   obtain ⟨V2, hst2, hb2, hX2⟩ := new_bx (c := wtA zwt) (c' := wtA x) (ty := 41) wr rfl (wtA_one x) (by kernel_rfl)
   have HR2 := Lib.hid (HR.out.trans (hb2.mono HR.out.size))
   have hbV2 := hb2
   go_upto_region 3 with fail
   refine wl <| gzb (lss_n rfl (i) (n) dT) <| wn ?_
   simp only [pu]
   go_upto_region 4 with fail
   refine wl <| gz1 (.int .i64 i) <| gzv (.pointer (some ⟨b, off + i * 3, none⟩)) (idx_wt b off n c i hlt _ _ _ rfl (by kernel_rfl) (by kernel_rfl)) <| gzl rfl ⟨b, off + i * 3, none⟩ (.agg (wtA x)) (load_wt hrg) ?_
   simp only [pu]
   refine run_to rfl (some 8) rfl (.pointer (some ⟨wr.heap.size, 0, none⟩)) (wr.alloc (.cells (wtA zwt) 41)) (by kernel_rfl) ?_
   simp only [pu]
   refine gz1 (.int .i64 i) <| gzs rfl (hst2) <| wn ?_
   simp only [pu]
   obtain ⟨g5, hg5⟩ : ∃ g, wr.heap.size = g := ⟨_, rfl⟩
   rw [hg5] at hX2 ⊢
   clear hst2 hb2 hg5
   have hAS := HAS.out i hlt
   have hPS := HPS.out i hlt
   have hHI := HHI.out i hlt
   rw [hx] at hAS hPS hHI
   rw [HP.out.2, Bool.false_or] at hAS
   rw [HP.out.1] at hPS
   have HAS2 := Lib.hid hAS
   have HPS2 := Lib.hid hPS
   have HHI2 := Lib.hid hHI
   have hXz := HX0.out.below HX0.out.lt HR2.out
   clear hAS hPS hHI hx hrg HR hbV2
   by_cases he9 : x.1 = z.1
   ·skip
    go_upto_region 5 with fail
    refine wl <| gz1 (.pointer (some ⟨g5, 0, none⟩)) <| gzl rfl ⟨g5, 0, none⟩ (.int .i64 x.1) (hX2.load (i := 0) rfl (by kernel_rfl)) <| gz1 (.pointer (some ⟨g3, 0, none⟩)) <| gzl rfl ⟨g3, 0, none⟩ (.int .i64 z.1) (hXz.load (i := 0) rfl (by kernel_rfl)) <|
     gzb (eql_n rfl x.1 z.1 (decide_eq_true he9)) <| wn ?_
    simp only [pu]
    have HE := Lib.hid (HOLD.out V2 HR2.out (HHI2.out he9))
    clear HAS2 HPS2 HHI2 hX2 HP HOLD HNEW hXz
    go_upto_region 6 with fail
    refine wl <| gz3 (.slice (some ⟨b, off, none⟩) n c) (.slice (some ⟨b, off, none⟩) n c) (.bool false) <| wn ?_
    simp only [pu]
    go_wp2_with fail
    exact HE.out
   ·skip
    go_upto_region 5 with fail
    refine wl <| gz1 (.pointer (some ⟨g5, 0, none⟩)) <| gzl rfl ⟨g5, 0, none⟩ (.int .i64 x.1) (hX2.load (i := 0) rfl (by kernel_rfl)) <| gz1 (.pointer (some ⟨g3, 0, none⟩)) <| gzl rfl ⟨g3, 0, none⟩ (.int .i64 z.1) (hXz.load (i := 0) rfl (by kernel_rfl)) <|
     gzb (eql_n rfl x.1 z.1 (decide_eq_false he9)) <| wn ?_
    simp only [pu]
    by_cases hl9 : x.1 < z.1
    ·skip
     go_upto_region 7 with fail
     refine wl <| gz1 (.pointer (some ⟨g5, 0, none⟩)) <| gzl rfl ⟨g5, 0, none⟩ (.int .i64 x.1) (hX2.load (i := 0) rfl (by kernel_rfl)) <| gz1 (.pointer (some ⟨g3, 0, none⟩)) <| gzl rfl ⟨g3, 0, none⟩ (.int .i64 z.1) (hXz.load (i := 0) rfl (by kernel_rfl)) <|
      gzb (lss_n rfl x.1 z.1 (decide_eq_true hl9)) <| wn ?_
     simp only [pu]
     have HE : Hid (posW z.1 (M.take (i + 1)) 0 0 = i + 1 ∧ hasW (M.take (i + 1)) z.1 = false) := Lib.hid ⟨by rw [HPS2.out, if_pos hl9], by rw [HAS2.out]; exact decide_eq_false he9⟩
     clear hl9 HAS2 HPS2 HHI2 hX2 hXz HP
     go_upto_region 8 with fail
     refine wl <| gz1 (.int .i64 i) <| gzv (.int .i64 (i + 1 : Nat)) (add_one rfl i (by omega) (by kernel_rfl) _) <| gz1 (.int .i64 (i + 1 : Nat)) <| wn ?_
     simp only [pu]
     go_upto_region 9 with fail
     refine wl <| gzv (.int .i64 (i + 1 : Nat)) (add_one rfl i (by omega) (by kernel_rfl) _) <| gz1 (.int .i64 (i + 1 : Nat)) <| wn ?_
     simp only [pu]
     go_wp2_with fail
     go_roundg (n - (i + 1))
     case measure => have := HGK.out; omega
     case rel => exact ⟨i + 1, i + 1, rfl, rfl, by omega, by omega, HE, HR2⟩
    ·skip
     go_upto_region 7 with fail
     refine wl <| gz1 (.pointer (some ⟨g5, 0, none⟩)) <| gzl rfl ⟨g5, 0, none⟩ (.int .i64 x.1) (hX2.load (i := 0) rfl (by kernel_rfl)) <| gz1 (.pointer (some ⟨g3, 0, none⟩)) <| gzl rfl ⟨g3, 0, none⟩ (.int .i64 z.1) (hXz.load (i := 0) rfl (by kernel_rfl)) <|
      gzb (lss_n rfl x.1 z.1 (decide_eq_false hl9)) <| wn ?_
     simp only [pu]
     have HE : Hid (posW z.1 (M.take (i + 1)) 0 0 = p ∧ hasW (M.take (i + 1)) z.1 = false) := Lib.hid ⟨by rw [HPS2.out, if_neg hl9], by rw [HAS2.out]; exact decide_eq_false he9⟩
     clear hl9 HAS2 HPS2 HHI2 hX2 hXz HP
     go_upto_region 9 with fail
     refine wl <| gzv (.int .i64 (i + 1 : Nat)) (add_one rfl i (by omega) (by kernel_rfl) _) <| gz1 (.int .i64 (i + 1 : Nat)) <| wn ?_
     simp only [pu]
     go_wp2_with fail
     go_roundg (n - (i + 1))
     case measure => have := HGK.out; omega
     case rel => exact ⟨i + 1, p, rfl, rfl, by omega, by omega, HE, HR2⟩
  ·skip
   obtain rfl : i = n := by omega
   go_upto_region 3 with fail
   refine wl <| gzb (lss_n rfl (i) (i) dF) <| wn ?_
   simp only [pu]
   have hPI := HP.out
   rw [← HN.out, List.take_length] at hPI
   have hpi := HPL.out i
   rw [HP.out.1] at hpi
   have hNEW := HNEW.out
   rw [hPI.1] at hNEW
   have HNEW2 := Lib.hid hNEW
   have HHF := Lib.hid hPI.2
   have HTL : Hid ((M.take p).length = p) := Lib.hid (by rw [List.length_take, HN.out]; omega)
   have HDL : Hid ((M.drop p).length = i - p) := Lib.hid (by rw [List.length_drop, HN.out])
   have h0 := CH.start wr z (M.take p) (M.take p ++ [z]) (M.take p ++ [z] ++ M.drop p) undef undef undef undef undef
   have HR9 := HR
   have HXz := Lib.hid (HX0.out.below HX0.out.lt HR.out)
   generalize wr = V7 at *
   clear hPI hNEW HP HPS HAS HHI HOLD HPL HRG HR HX0
   go_upto_region 10 with fail
   refine wp_region_inv (fun listed act9 V => ∃ b0 b1 b2 b3 b4 b5 b6 b7 b8 b9 b10 b11 b12 b13 : Bool, ∃ x30 x34 x36 x37 x41 : Value, listed = #[b0, b1, b2, b3, b4, b5, b6, b7, b8, b9, b10, b11, b12, b13] ∧ act9 = { tmps := #[.slice al i c, .agg (wtA z), undef, .pointer (some ⟨g3, 0, none⟩), (cond b12 (x41) (u4)), (cond b13 (.bool true) (u5)), .int .i64 p, u7, u8, .slice al i c, .int .i64 i, .int .i64 i, .bool false, u13, u14, u15, u16, u17, u18, u19, u20, u21, u22, u23, u24, u25, u26, u27, u28, u29, x30, (cond b1 (.slice al i c) undef), (cond b2 (.int .i64 p) undef), (cond b3 (.slice al p c) undef), x34, (cond b5 (.agg (wtA z)) undef), x36, x37, (cond b8 (.slice al i c) undef), (cond b9 (.int .i64 p) undef), (cond b10 (.slice (fromS 3 al c p) (i - p) (c - p)) undef), x41], defers := [] } ∧ CH V7 z (M.take p) (M.take p ++ [z]) (M.take p ++ [z] ++ M.drop p) b0 b4 b7 b11 b6 x30 x34 x37 x41 x36 V ∧ (b12 = true → b11 = true)) (by kernel_rfl) (by kernel_rfl) ?_ ?_ ?_
   ·exact ⟨false, false, false, false, false, false, false, false, false, false, false, false, false, false, undef, undef, undef, undef, undef, rfl, rfl, h0, fun h => (by cases h)⟩
   ·intro i9 listed act9 V hi9 hr hJ
    obtain ⟨b0, b1, b2, b3, b4, b5, b6, b7, b8, b9, b10, b11, b12, b13, x30, x34, x36, x37, x41, rfl, rfl, hF, hA⟩ := hJ
    have hi2 : i9 < 14 := hi9
    have hi3 : i9 = 0 ∨ i9 = 1 ∨ i9 = 2 ∨ i9 = 3 ∨ i9 = 4 ∨ i9 = 5 ∨ i9 = 6 ∨ i9 = 7 ∨ i9 = 8 ∨ i9 = 9 ∨ i9 = 10 ∨ i9 = 11 ∨ i9 = 12 ∨ i9 = 13 := by omega
    rcases hi3 with rfl | rfl | rfl | rfl | rfl | rfl | rfl | rfl | rfl | rfl | rfl | rfl | rfl | rfl
    ·obtain rfl : b0 = false := ready_self hr
     obtain rfl : b4 = false := by cases b4; rfl; exact absurd (hF.c1 rfl) (by decide)
     obtain rfl : b7 = false := by cases b7; rfl; exact absurd (hF.c2 rfl) (by decide)
     obtain rfl : b11 = false := by cases b11; rfl; exact absurd (hF.c3 rfl) (by decide)
     refine st_build rfl (by kernel_rfl) (some 30) rfl 30 0 #[] rfl #[] (by kernel_rfl) (.slice (some ⟨V.heap.size, 0, none⟩) 0 0) _ (nil_wt V) ?_
     exact ⟨true, b1, b2, b3, false, b5, b6, false, b8, b9, b10, false, b12, b13, _, x34, x36, x37, x41, rfl, rfl, hF.nil, hA⟩
    ·obtain rfl : b1 = false := ready_self hr
     refine st_val rfl (by kernel_rfl) (some 31) rfl (.slice al i c) V (by kernel_rfl) ?_
     exact ⟨b0, true, b2, b3, b4, b5, b6, b7, b8, b9, b10, b11, b12, b13, x30, x34, x36, x37, x41, rfl, rfl, hF, hA⟩
    ·obtain rfl : b2 = false := ready_self hr
     refine st_val rfl (by kernel_rfl) (some 32) rfl (.int .i64 p) V (by kernel_rfl) ?_
     exact ⟨b0, b1, true, b3, b4, b5, b6, b7, b8, b9, b10, b11, b12, b13, x30, x34, x36, x37, x41, rfl, rfl, hF, hA⟩
    ·obtain rfl : b3 = false := ready_self hr
     obtain rfl : b1 = true := ready_dep hr 1 (by kernel_rfl)
     obtain rfl : b2 = true := ready_dep hr 2 (by kernel_rfl)
     refine st_slice_to rfl (by kernel_rfl) (some 33) rfl 30 (.tmp 31) (.tmp 32) rfl (.slice al i c) (.int .i64 (p : Int)) (.slice al p c) (by kernel_rfl) (by kernel_rfl) (cut_wt_to al i c p V (by omega)) ?_
     exact ⟨b0, true, true, true, b4, b5, b6, b7, b8, b9, b10, b11, b12, b13, x30, x34, x36, x37, x41, rfl, rfl, hF, hA⟩
    ·obtain rfl : b4 = false := ready_self hr
     obtain rfl : b0 = true := ready_dep hr 0 (by kernel_rfl)
     obtain rfl : b3 = true := ready_dep hr 3 (by kernel_rfl)
     obtain rfl : b7 = false := by cases b7; rfl; exact absurd (hF.c2 rfl) (by decide)
     obtain rfl : b11 = false := by cases b11; rfl; exact absurd (hF.c3 rfl) (by decide)
     have hO := hF.r0 rfl rfl
     obtain ⟨v, V2, hap, hO2, hb2, hg2, hat2⟩ := hO.app hF.bel.size al p c (M.take p) (by rw [← wtcs_take]; exact (HMR.out _ (HR9.out.trans (hF.bel.mono HR9.out.size))).take _) HTL.out (by simp) (by omega)
     refine st_append rfl (by kernel_rfl) (some 34) rfl 30 rfl (.tmp 30) (.tmp 33) 30 rfl x30 (.slice al p c) v V2 (by kernel_rfl) (by kernel_rfl) hap ?_
     exact ⟨true, b1, b2, true, true, b5, b6, false, b8, b9, b10, false, b12, b13, x30, v, x36, x37, x41, rfl, rfl, hF.one (by rw [List.nil_append] at hO2; exact hO2) hb2 hg2 hat2, hA⟩
    ·obtain rfl : b5 = false := ready_self hr
     refine st_load rfl (by kernel_rfl) (some 35) rfl 41 (.tmp 3) rfl ⟨g3, 0, none⟩ (.agg (wtA z)) (by kernel_rfl) (load_wtb (HXz.out.below HXz.out.lt hF.bel)) ?_
     exact ⟨b0, b1, b2, b3, b4, true, b6, b7, b8, b9, b10, b11, b12, b13, x30, x34, x36, x37, x41, rfl, rfl, hF, hA⟩
    ·obtain rfl : b6 = false := ready_self hr
     obtain rfl : b5 = true := ready_dep hr 5 (by kernel_rfl)
     refine st_build rfl (by kernel_rfl) (some 36) rfl 30 1 #[(0, .tmp 35)] rfl #[(0, .agg (wtA z))] (by kernel_rfl) (.slice (some ⟨V.heap.size, 0, none⟩) 1 1) _ (build_wt z V) ?_
     exact ⟨b0, b1, b2, b3, b4, true, true, b7, b8, b9, b10, b11, b12, b13, x30, x34, _, x37, x41, rfl, rfl, hF.key, hA⟩
    ·obtain rfl : b7 = false := ready_self hr
     obtain rfl : b4 = true := ready_dep hr 4 (by kernel_rfl)
     obtain rfl : b6 = true := ready_dep hr 6 (by kernel_rfl)
     obtain rfl : b11 = false := by cases b11; rfl; exact absurd (hF.c3 rfl) (by decide)
     have hO := hF.r1 rfl rfl
     obtain ⟨gq, rfl, hgx, -⟩ := hF.kx rfl
     have hgc : Cs V (some ⟨gq, 0, none⟩) (wtcs [z]) := Cs.block (cs := wtl z) hgx
     obtain ⟨v, V2, hap, hO2, hb2, hg2, hat2⟩ := hO.app hF.bel.size (some ⟨gq, 0, none⟩) 1 1 [z] hgc rfl (by rw [HTL.out]; omega) (by omega)
     refine st_append rfl (by kernel_rfl) (some 37) rfl 30 rfl (.tmp 34) (.tmp 36) 30 rfl x34 (.slice (some ⟨gq, 0, none⟩) 1 1) v V2 (by kernel_rfl) (by kernel_rfl) hap ?_
     exact ⟨b0, b1, b2, b3, true, b5, true, true, b8, b9, b10, false, b12, b13, x30, x34, _, v, x41, rfl, rfl, hF.two hO2 hb2 hg2 hat2, hA⟩
    ·obtain rfl : b8 = false := ready_self hr
     refine st_val rfl (by kernel_rfl) (some 38) rfl (.slice al i c) V (by kernel_rfl) ?_
     exact ⟨b0, b1, b2, b3, b4, b5, b6, b7, true, b9, b10, b11, b12, b13, x30, x34, x36, x37, x41, rfl, rfl, hF, hA⟩
    ·obtain rfl : b9 = false := ready_self hr
     refine st_val rfl (by kernel_rfl) (some 39) rfl (.int .i64 p) V (by kernel_rfl) ?_
     exact ⟨b0, b1, b2, b3, b4, b5, b6, b7, b8, true, b10, b11, b12, b13, x30, x34, x36, x37, x41, rfl, rfl, hF, hA⟩
    ·obtain rfl : b10 = false := ready_self hr
     obtain rfl : b8 = true := ready_dep hr 8 (by kernel_rfl)
     obtain rfl : b9 = true := ready_dep hr 9 (by kernel_rfl)
     refine st_slice_from rfl (by kernel_rfl) (some 40) rfl 30 (.tmp 38) (.tmp 39) rfl (.slice al i c) (.int .i64 ((p : Nat) : Int)) (.slice (fromS 3 al c p) (i - p) (c - p)) (by kernel_rfl) (by kernel_rfl) (cut_wt_from al i c (p) V (by omega)) ?_
     exact ⟨b0, b1, b2, b3, b4, b5, b6, b7, true, true, true, b11, b12, b13, x30, x34, x36, x37, x41, rfl, rfl, hF, hA⟩
    ·obtain rfl : b11 = false := ready_self hr
     obtain rfl : b7 = true := ready_dep hr 7 (by kernel_rfl)
     obtain rfl : b10 = true := ready_dep hr 10 (by kernel_rfl)
     obtain rfl : b12 = false := by cases b12; rfl; exact absurd (hA rfl) (by decide)
     have hO := hF.r2 rfl rfl
     obtain ⟨v, V2, hap, hO2, hb2, hg2, hat2⟩ := hO.app hF.bel.size (fromS 3 al c p) (i - p) (c - p) (M.drop p) (by rw [← wtcs_drop]; exact (HMR.out _ (HR9.out.trans (hF.bel.mono HR9.out.size))).from 3 c p (by rw [wtcs_len, HN.out]; omega)) HDL.out (by rw [List.length_append, HTL.out]; simp; omega) (by omega)
     refine st_append rfl (by kernel_rfl) (some 41) rfl 30 rfl (.tmp 37) (.tmp 40) 30 rfl x37 (.slice (fromS 3 al c p) (i - p) (c - p)) v V2 (by kernel_rfl) (by kernel_rfl) hap ?_
     exact ⟨b0, b1, b2, b3, b4, b5, b6, true, b8, b9, true, true, false, b13, x30, x34, x36, x37, v, rfl, rfl, hF.three hO2 hb2 hg2 hat2, fun h => (by cases h)⟩
    ·obtain rfl : b12 = false := ready_self hr
     obtain rfl : b11 = true := ready_dep hr 11 (by kernel_rfl)
     refine st_val rfl (by kernel_rfl) (some 4) rfl (x41) V (by kernel_rfl) ?_
     exact ⟨b0, b1, b2, b3, b4, b5, b6, b7, b8, b9, b10, true, true, b13, x30, x34, x36, x37, x41, rfl, rfl, hF, fun _ => rfl⟩
    ·obtain rfl : b13 = false := ready_self hr
     refine st_val rfl (by kernel_rfl) (some 5) rfl (.bool true) V (by kernel_rfl) ?_
     exact ⟨b0, b1, b2, b3, b4, b5, b6, b7, b8, b9, b10, b11, b12, true, x30, x34, x36, x37, x41, rfl, rfl, hF, hA⟩
   ·intro act9 V hJ
    obtain ⟨b0, b1, b2, b3, b4, b5, b6, b7, b8, b9, b10, b11, b12, b13, x30, x34, x36, x37, x41, he, rfl, hF, hA⟩ := hJ
    have he : (#[true, true, true, true, true, true, true, true, true, true, true, true, true, true] : Array Bool) = #[b0, b1, b2, b3, b4, b5, b6, b7, b8, b9, b10, b11, b12, b13] := he
    simp only [Array.mk.injEq, List.cons.injEq, and_true] at he
    obtain ⟨rfl, rfl, rfl, rfl, rfl, rfl, rfl, rfl, rfl, rfl, rfl, rfl, rfl, rfl⟩ := he
    simp only [cond_true]
    have hO := hF.r3 rfl
    have HE := Lib.hid (HNEW2.out V x41 (HR9.out.trans (hF.bel.mono HR9.out.size)) HHF.out (own_base hO (Nat.le_trans HWS.out HR9.out.size)))
    clear hF h0 hO HMR
    go_wp2_with fail
    exact HE.out
set_option maxRecDepth 100000 in
set_option maxHeartbeats 8000000 in
theorem r_rem {w : World} {al : Option Addr} {c : Nat} {M : List Wt} (hR : Cs w al (wtcs M)) (hcc : M.length ≤ c) (hl : M.length ≤ 1000) (k : Int) : Calls Try.prog 11 #[.slice al M.length c, .int .i64 k] w (RwO w al M (remW k M) (hasW M k)) := by
 have HRG : Hid (∀ V, Below w.heap.size w V → ∀ i, i < M.length → ∃ b off, al = some ⟨b, off, none⟩ ∧ V.rangeAt b (off + i * 3) (wtl (M.getD i zwt))) := Lib.hid fun V hV i hi => by
  obtain ⟨b, off, h1, -, h2⟩ := wt_rg (hR.below hV) hi
  exact ⟨b, off, h1, h2⟩
 have HOLD : Hid (∀ V, Below w.heap.size w V → hasW M k = false → RwO w al M (remW k M) (hasW M k) (.returned (.tuple #[.slice al M.length c, .bool false])) V) := Lib.hid fun V hV h => by
  rw [rem_no h, h]
  exact ⟨al, c, rfl, hR.below hV, hcc, fun k hk => .inl hk, hV⟩
 have HNEW : Hid (∀ V v i, i < M.length → Below w.heap.size w V → hasW (M.take i) k = false → (M.getD i zwt).1 = k → Rowwt V w.heap.size v (M.take i ++ M.drop (i + 1)) → RwO w al M (remW k M) (hasW M k) (.returned (.tuple #[v, .bool true])) V) := Lib.hid fun V v i hi hV h0 h hv => by
  rw [has_hit hi h, rem_hit hi h0 h]
  exact RwO.new hv hV
 have HMR := Lib.hid (fun V (hV : Below w.heap.size w V) => hR.below hV)
 have HAS : Hid (∀ i, i < M.length → hasW (M.take (i + 1)) k = (hasW (M.take i) k || decide ((M.getD i zwt).1 = k))) := Lib.hid fun i hi => has_step hi
 obtain ⟨n, hn⟩ : ∃ n, M.length = n := ⟨_, rfl⟩
 have HN := Lib.hid hn
 obtain ⟨PO, hPO⟩ : ∃ PO, RwO w al M (remW k M) (hasW M k) = PO := ⟨_, rfl⟩
 rw [hPO] at HOLD HNEW ⊢
 rw [hn] at HRG HOLD HNEW HAS hl hcc ⊢
 clear hR hn hPO
 go_enter Try.func11, Try.ntmps11
 go_upto_region 1 with fail
 refine wl <| gz3 (.slice al n c) (.int .i64 n) (.int .i64 0) <| wn ?_
 simp only [pu]
 go_wp2_with fail
 go_loopg [10] n (fun gg s10 wx => ∃ (i : Nat), s10 = .int .i64 i ∧ i ≤ n ∧ gg + i = n ∧ Hid (hasW (M.take i) k = false) ∧ Hid (Below w.heap.size w wx))
 case atStart => exact ⟨0, rfl, by omega, by omega, Lib.hid rfl, Lib.hid (Below.refl _ _)⟩
 case round =>
  obtain ⟨i, rfl, hin, hg, HP, HR⟩ := hrel
  have HGK : Hid (gk + i = n) := Lib.hid hg
  clear hg
  by_cases hlt : i < n
  ·skip
   obtain ⟨b, off, hbb, hrg⟩ := HRG.out wr HR.out i hlt
   obtain rfl := hbb
   obtain ⟨x, hx⟩ : ∃ x, M.getD i zwt = x := ⟨_, rfl⟩
   rw [hx] at hrg
   obtain ⟨V2, hst2, hb2, hX2⟩ := new_bx (c := wtA zwt) (c' := wtA x) (ty := 41) wr rfl (wtA_one x) (by kernel_rfl)
   have HR2 := Lib.hid (HR.out.trans (hb2.mono HR.out.size))
   have hbV2 := hb2
   go_upto_region 2 with fail
   refine wl <| gzb (lss_n rfl (i) (n) dT) <| wn ?_
   simp only [pu]
   go_upto_region 3 with fail
   refine wl <| gz1 (.int .i64 i) <| gzv (.pointer (some ⟨b, off + i * 3, none⟩)) (idx_wt b off n c i hlt _ _ _ rfl (by kernel_rfl) (by kernel_rfl)) <| gzl rfl ⟨b, off + i * 3, none⟩ (.agg (wtA x)) (load_wt hrg) ?_
   simp only [pu]
   refine run_to rfl (some 7) rfl (.pointer (some ⟨wr.heap.size, 0, none⟩)) (wr.alloc (.cells (wtA zwt) 41)) (by kernel_rfl) ?_
   simp only [pu]
   refine gz1 (.int .i64 i) <| gzs rfl (hst2) <| wn ?_
   simp only [pu]
   obtain ⟨g5, hg5⟩ : ∃ g, wr.heap.size = g := ⟨_, rfl⟩
   rw [hg5] at hX2 ⊢
   clear hst2 hb2 hg5
   have hAS := HAS.out i hlt
   have hNW := fun V v hV h => HNEW.out V v i hlt hV HP.out h
   rw [hx] at hAS hNW
   rw [HP.out, Bool.false_or] at hAS
   have HAS2 := Lib.hid hAS
   have HNW2 := Lib.hid hNW
   clear hAS hNW hx hrg HR HNEW hbV2
   by_cases he9 : x.1 = k
   ·skip
    go_upto_region 4 with fail
    refine wl <| gz1 (.pointer (some ⟨g5, 0, none⟩)) <| gzl rfl ⟨g5, 0, none⟩ (.int .i64 x.1) (hX2.load (i := 0) rfl (by kernel_rfl)) <| gz1 (.int .i64 k) <| gzb (eql_n rfl x.1 k (decide_eq_true he9)) <| wn ?_
    simp only [pu]
    have hNW := fun V v hV => HNW2.out V v hV he9
    have HNW3 := Lib.hid hNW
    have HTL : Hid ((M.take i).length = i) := Lib.hid (by rw [List.length_take, HN.out]; omega)
    have HDL : Hid ((M.drop (i + 1)).length = n - (i + 1)) := Lib.hid (by rw [List.length_drop, HN.out])
    have h0 := CH.start V2 x (M.take i) (M.take i ++ M.drop (i + 1)) [] u19 u23 u28 undef undef
    have HR9 := HR2
    generalize V2 = V7 at *
    clear hNW HNW2 HP HAS HAS2 HOLD hX2 HR2 HRG
    go_upto_region 5 with fail
    refine wp_region_inv (fun listed act9 V => ∃ b0 b1 b2 b3 b4 b5 b6 b7 b8 b9 b10 b11 : Bool, ∃ x19 x23 x28 : Value, listed = #[b0, b1, b2, b3, b4, b5, b6, b7, b8, b9, b10, b11] ∧ act9 = { tmps := #[.slice (some ⟨b, off, none⟩) n c, .int .i64 k, undef, undef, (cond b10 (x28) (u4)), (cond b11 (.bool true) (u5)), .int .i64 i, .pointer (some ⟨g5, 0, none⟩), .slice (some ⟨b, off, none⟩) n c, .int .i64 n, .int .i64 i, .bool true, .int .i64 i, .pointer (some ⟨b, off + i * 3, none⟩), .agg (wtA x), .pointer (some ⟨g5, 0, none⟩), .int .i64 x.1, .int .i64 k, .bool true, x19, (cond b1 (.slice (some ⟨b, off, none⟩) n c) (u20)), (cond b2 (.int .i64 i) (u21)), (cond b3 (.slice (some ⟨b, off, none⟩) i c) (u22)), x23, (cond b5 (.slice (some ⟨b, off, none⟩) n c) (u24)), (cond b6 (.int .i64 i) (u25)), (cond b7 (.int .i64 ((i + 1 : Nat) : Int)) (u26)), (cond b8 (.slice (fromS 3 (some ⟨b, off, none⟩) c (i + 1)) (n - (i + 1)) (c - (i + 1))) (u27)), x28, u29, undef], defers := [] } ∧ CH V7 x (M.take i) (M.take i ++ M.drop (i + 1)) [] b0 b4 b9 false false x19 x23 x28 undef undef V ∧ (b10 = true → b9 = true)) (by kernel_rfl) (by kernel_rfl) ?_ ?_ ?_
    ·exact ⟨false, false, false, false, false, false, false, false, false, false, false, false, u19, u23, u28, rfl, rfl, h0, fun h => (by cases h)⟩
    ·intro i9 listed act9 V hi9 hr hJ
     obtain ⟨b0, b1, b2, b3, b4, b5, b6, b7, b8, b9, b10, b11, x19, x23, x28, rfl, rfl, hF, hA⟩ := hJ
     have hi2 : i9 < 12 := hi9
     have hi3 : i9 = 0 ∨ i9 = 1 ∨ i9 = 2 ∨ i9 = 3 ∨ i9 = 4 ∨ i9 = 5 ∨ i9 = 6 ∨ i9 = 7 ∨ i9 = 8 ∨ i9 = 9 ∨ i9 = 10 ∨ i9 = 11 := by omega
     rcases hi3 with rfl | rfl | rfl | rfl | rfl | rfl | rfl | rfl | rfl | rfl | rfl | rfl
     ·obtain rfl : b0 = false := ready_self hr
      obtain rfl : b4 = false := by cases b4; rfl; exact absurd (hF.c1 rfl) (by decide)
      obtain rfl : b9 = false := by cases b9; rfl; exact absurd (hF.c2 rfl) (by decide)
      refine st_build rfl (by kernel_rfl) (some 19) rfl 30 0 #[] rfl #[] (by kernel_rfl) (.slice (some ⟨V.heap.size, 0, none⟩) 0 0) _ (nil_wt V) ?_
      exact ⟨true, b1, b2, b3, false, b5, b6, b7, b8, false, b10, b11, _, x23, x28, rfl, rfl, hF.nil, hA⟩
     ·obtain rfl : b1 = false := ready_self hr
      refine st_val rfl (by kernel_rfl) (some 20) rfl (.slice (some ⟨b, off, none⟩) n c) V (by kernel_rfl) ?_
      exact ⟨b0, true, b2, b3, b4, b5, b6, b7, b8, b9, b10, b11, x19, x23, x28, rfl, rfl, hF, hA⟩
     ·obtain rfl : b2 = false := ready_self hr
      refine st_val rfl (by kernel_rfl) (some 21) rfl (.int .i64 i) V (by kernel_rfl) ?_
      exact ⟨b0, b1, true, b3, b4, b5, b6, b7, b8, b9, b10, b11, x19, x23, x28, rfl, rfl, hF, hA⟩
     ·obtain rfl : b3 = false := ready_self hr
      obtain rfl : b1 = true := ready_dep hr 1 (by kernel_rfl)
      obtain rfl : b2 = true := ready_dep hr 2 (by kernel_rfl)
      refine st_slice_to rfl (by kernel_rfl) (some 22) rfl 30 (.tmp 20) (.tmp 21) rfl (.slice (some ⟨b, off, none⟩) n c) (.int .i64 (i : Int)) (.slice (some ⟨b, off, none⟩) i c) (by kernel_rfl) (by kernel_rfl) (cut_wt_to (some ⟨b, off, none⟩) n c i V (by omega)) ?_
      exact ⟨b0, true, true, true, b4, b5, b6, b7, b8, b9, b10, b11, x19, x23, x28, rfl, rfl, hF, hA⟩
     ·obtain rfl : b4 = false := ready_self hr
      obtain rfl : b0 = true := ready_dep hr 0 (by kernel_rfl)
      obtain rfl : b3 = true := ready_dep hr 3 (by kernel_rfl)
      obtain rfl : b9 = false := by cases b9; rfl; exact absurd (hF.c2 rfl) (by decide)
      have hO := hF.r0 rfl rfl
      obtain ⟨v, V2, hap, hO2, hb2, hg2, hat2⟩ := hO.app hF.bel.size (some ⟨b, off, none⟩) i c (M.take i) (by rw [← wtcs_take]; exact (HMR.out _ (HR9.out.trans (hF.bel.mono HR9.out.size))).take _) HTL.out (by simp) (by omega)
      refine st_append rfl (by kernel_rfl) (some 23) rfl 30 rfl (.tmp 19) (.tmp 22) 30 rfl x19 (.slice (some ⟨b, off, none⟩) i c) v V2 (by kernel_rfl) (by kernel_rfl) hap ?_
      exact ⟨true, b1, b2, true, true, b5, b6, b7, b8, false, b10, b11, x19, v, x28, rfl, rfl, hF.one (by rw [List.nil_append] at hO2; exact hO2) hb2 hg2 hat2, hA⟩
     ·obtain rfl : b5 = false := ready_self hr
      refine st_val rfl (by kernel_rfl) (some 24) rfl (.slice (some ⟨b, off, none⟩) n c) V (by kernel_rfl) ?_
      exact ⟨b0, b1, b2, b3, b4, true, b6, b7, b8, b9, b10, b11, x19, x23, x28, rfl, rfl, hF, hA⟩
     ·obtain rfl : b6 = false := ready_self hr
      refine st_val rfl (by kernel_rfl) (some 25) rfl (.int .i64 i) V (by kernel_rfl) ?_
      exact ⟨b0, b1, b2, b3, b4, b5, true, b7, b8, b9, b10, b11, x19, x23, x28, rfl, rfl, hF, hA⟩
     ·obtain rfl : b7 = false := ready_self hr
      obtain rfl : b6 = true := ready_dep hr 6 (by kernel_rfl)
      refine st_val rfl (by kernel_rfl) (some 26) rfl (.int .i64 ((i + 1 : Nat) : Int)) V (add_one rfl i (by omega) (by kernel_rfl) V) ?_
      exact ⟨b0, b1, b2, b3, b4, b5, true, true, b8, b9, b10, b11, x19, x23, x28, rfl, rfl, hF, hA⟩
     ·obtain rfl : b8 = false := ready_self hr
      obtain rfl : b5 = true := ready_dep hr 5 (by kernel_rfl)
      obtain rfl : b7 = true := ready_dep hr 7 (by kernel_rfl)
      refine st_slice_from rfl (by kernel_rfl) (some 27) rfl 30 (.tmp 24) (.tmp 26) rfl (.slice (some ⟨b, off, none⟩) n c) (.int .i64 (((i + 1) : Nat) : Int)) (.slice (fromS 3 (some ⟨b, off, none⟩) c (i + 1)) (n - (i + 1)) (c - (i + 1))) (by kernel_rfl) (by kernel_rfl) (cut_wt_from (some ⟨b, off, none⟩) n c ((i + 1)) V (by omega)) ?_
      exact ⟨b0, b1, b2, b3, b4, true, b6, true, true, b9, b10, b11, x19, x23, x28, rfl, rfl, hF, hA⟩
     ·obtain rfl : b9 = false := ready_self hr
      obtain rfl : b4 = true := ready_dep hr 4 (by kernel_rfl)
      obtain rfl : b8 = true := ready_dep hr 8 (by kernel_rfl)
      obtain rfl : b10 = false := by cases b10; rfl; exact absurd (hA rfl) (by decide)
      have hO := hF.r1 rfl rfl
      obtain ⟨v, V2, hap, hO2, hb2, hg2, hat2⟩ := hO.app hF.bel.size (fromS 3 (some ⟨b, off, none⟩) c (i + 1)) (n - (i + 1)) (c - (i + 1)) (M.drop (i + 1)) (by rw [← wtcs_drop]; exact (HMR.out _ (HR9.out.trans (hF.bel.mono HR9.out.size))).from 3 c (i + 1) (by rw [wtcs_len, HN.out]; omega)) HDL.out (by rw [HTL.out]; omega) (by omega)
      refine st_append rfl (by kernel_rfl) (some 28) rfl 30 rfl (.tmp 23) (.tmp 27) 30 rfl x23 (.slice (fromS 3 (some ⟨b, off, none⟩) c (i + 1)) (n - (i + 1)) (c - (i + 1))) v V2 (by kernel_rfl) (by kernel_rfl) hap ?_
      exact ⟨b0, b1, b2, b3, true, b5, b6, b7, true, true, false, b11, x19, x23, v, rfl, rfl, hF.two hO2 hb2 hg2 hat2, fun h => (by cases h)⟩
     ·obtain rfl : b10 = false := ready_self hr
      obtain rfl : b9 = true := ready_dep hr 9 (by kernel_rfl)
      refine st_val rfl (by kernel_rfl) (some 4) rfl (x28) V (by kernel_rfl) ?_
      exact ⟨b0, b1, b2, b3, b4, b5, b6, b7, b8, true, true, b11, x19, x23, x28, rfl, rfl, hF, fun _ => rfl⟩
     ·obtain rfl : b11 = false := ready_self hr
      refine st_val rfl (by kernel_rfl) (some 5) rfl (.bool true) V (by kernel_rfl) ?_
      exact ⟨b0, b1, b2, b3, b4, b5, b6, b7, b8, b9, b10, true, x19, x23, x28, rfl, rfl, hF, hA⟩
    ·intro act9 V hJ
     obtain ⟨b0, b1, b2, b3, b4, b5, b6, b7, b8, b9, b10, b11, x19, x23, x28, he, rfl, hF, hA⟩ := hJ
     have he : (#[true, true, true, true, true, true, true, true, true, true, true, true] : Array Bool) = #[b0, b1, b2, b3, b4, b5, b6, b7, b8, b9, b10, b11] := he
     simp only [Array.mk.injEq, List.cons.injEq, and_true] at he
     obtain ⟨rfl, rfl, rfl, rfl, rfl, rfl, rfl, rfl, rfl, rfl, rfl, rfl⟩ := he
     simp only [cond_true]
     have hO := hF.r2 rfl rfl
     have HE := Lib.hid (HNW3.out V x28 (HR9.out.trans (hF.bel.mono HR9.out.size)) (own_base hO HR9.out.size))
     clear hF h0 hO HMR HNW3
     go_wp2_with fail
     exact HE.out
   ·skip
    go_upto_region 4 with fail
    refine wl <| gz1 (.pointer (some ⟨g5, 0, none⟩)) <| gzl rfl ⟨g5, 0, none⟩ (.int .i64 x.1) (hX2.load (i := 0) rfl (by kernel_rfl)) <| gz1 (.int .i64 k) <| gzb (eql_n rfl x.1 k (decide_eq_false he9)) <| wn ?_
    simp only [pu]
    have HE : Hid (hasW (M.take (i + 1)) k = false) := Lib.hid (by rw [HAS2.out]; exact decide_eq_false he9)
    clear HAS2 HNW2 hX2 HP
    go_upto_region 6 with fail
    refine wl <| gzv (.int .i64 (i + 1 : Nat)) (add_one rfl i (by omega) (by kernel_rfl) _) <| gz1 (.int .i64 (i + 1 : Nat)) <| wn ?_
    simp only [pu]
    go_wp2_with fail
    go_roundg (n - (i + 1))
    case measure => have := HGK.out; omega
    case rel => exact ⟨i + 1, rfl, by omega, by omega, HE, HR2⟩
  ·skip
   obtain rfl : i = n := by omega
   go_upto_region 2 with fail
   refine wl <| gzb (lss_n rfl (i) (i) dF) <| wn ?_
   simp only [pu]
   have hPI := HP.out
   rw [← HN.out, List.take_length] at hPI
   have HE := Lib.hid (HOLD.out wr HR.out hPI)
   clear HP hPI HOLD HNEW HAS HRG
   go_upto_region 7 with fail
   refine wl <| gz3 (.slice al i c) (.slice al i c) (.bool false) <| wn ?_
   simp only [pu]
   go_wp2_with fail
   exact HE.out
end Go.Proofs.Ytdjphghoollejaa
