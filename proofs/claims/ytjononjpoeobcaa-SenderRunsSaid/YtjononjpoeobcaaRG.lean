/-
 Rows that a drawn region builds; the reference's AddRow and RemoveRow: contracts.
-/
import Derived.Test.YtjononjpoeobcaaAR
namespace Go.Proofs.Ytjononjpoeobcaa
attribute [local irreducible] wpList wpQuiet
open Go.RowKit
set_option maxRecDepth 100000
set_option linter.unusedSimpArgs false
set_option linter.unusedVariables false

def Row (V0 V : World) (x : Value) (L : List Rw) : Prop := V.ownsRow V0.heap.size 43 3 x L.length (rwcs L)
theorem Row.below {V0 V V2 : World} {x : Value} {L : List Rw} (h : Row V0 V x L) (hb : Below V.heap.size V V2) : Row V0 V2 x L := own_below h hb
/-- A row of keys is appended: where the new row lies. -/
theorem Row.app {V0 V : World} {x : Value} {L : List Rw} (h : Row V0 V x L) (hV : V0.heap.size ≤ V.heap.size) (pa : Option Addr) (m cp : Nat) (P : List Rw) (hP : Cs V pa (rwcs P)) (hm : P.length = m) (hl : L.length ≤ 100000) (hp : m ≤ 100000) :
  ∃ v V2, (Builtin.append_ #[26, 26] 26 #[x, .slice pa m cp]).run Try.prog V = .ok v V2 ∧ Row V0 V2 v (L ++ P) ∧ Below V0.heap.size V V2 ∧ V.grownBy V2 x.ownBlock ∧ (v.ownBlock = x.ownBlock ∨ v.ownBlock = some V.heap.size) := app_rw h hV pa m cp P hP hm hl hp
/-- What a region keeps that builds a row of keys in up to three steps; and a slice of one key beside it. -/
structure CH (V0 : World) (k : Rw) (L1 L2 L3 : List Rw) (b0 b1 b2 b3 bk : Bool) (x0 x1 x2 x3 xk : Value) (V : World) : Prop where
 bel : Below V0.heap.size V0 V
 r0 : b0 = true → b1 = false → Row V0 V x0 []
 r1 : b1 = true → b2 = false → Row V0 V x1 L1
 r2 : b2 = true → b3 = false → Row V0 V x2 L2
 r3 : b3 = true → Row V0 V x3 L3
 c1 : b1 = true → b0 = true
 c2 : b2 = true → b1 = true
 c3 : b3 = true → b2 = true
 kx : bk = true → ∃ g, xk = .slice (some ⟨g, 0, none⟩) 1 1 ∧ Bx V g (rwA k) 43 ∧ (b0 = true → b1 = false → x0.ownBlock ≠ some g) ∧ (b1 = true → b2 = false → x1.ownBlock ≠ some g) ∧ (b2 = true → b3 = false → x2.ownBlock ≠ some g)
section
variable {V0 V V2 : World} {k : Rw} {L1 L2 L3 : List Rw} {b0 b1 b2 b3 bk : Bool} {x0 x1 x2 x3 xk v : Value}
theorem Row.ne {x : Value} {L : List Rw} (h : Row V0 V x L) : x.ownBlock ≠ some V.heap.size := fun e => Nat.lt_irrefl _ (h.lt _ e).2
theorem CH.nil (h : CH V0 k L1 L2 L3 false false false false bk x0 x1 x2 x3 xk V) : CH V0 k L1 L2 L3 true false false false bk (.slice (some ⟨V.heap.size, 0, none⟩) 0 0) x1 x2 x3 xk (V.alloc (.cells #[] 43)) :=
 have hb : Below V.heap.size V (V.alloc (.cells #[] 43)) := (Below.refl _ V).alloc (Nat.le_refl _) _
 {bel := h.bel.trans (hb.mono h.bel.size), r0 := fun _ _ => own_base (own_nil V 43 3) h.bel.size, r1 := fun h1 => (by cases h1), r2 := fun h1 => (by cases h1), r3 := fun h1 => (by cases h1), c1 := fun h1 => (by cases h1), c2 := fun h1 => (by cases h1), c3 := fun h1 => (by cases h1)
  kx := fun hk => by
   obtain ⟨g, e, hx, -⟩ := h.kx hk
   exact ⟨g, e, hx.below hx.lt hb, fun _ _ e2 => by have := hx.lt; simp only [Value.ownBlock, Option.some.injEq] at e2; omega, fun h1 => (by cases h1), fun h1 => (by cases h1)⟩ }
theorem CH.key (h : CH V0 k L1 L2 L3 b0 b1 b2 b3 false x0 x1 x2 x3 xk V) : CH V0 k L1 L2 L3 b0 b1 b2 b3 true x0 x1 x2 x3 (.slice (some ⟨V.heap.size, 0, none⟩) 1 1) (V.alloc (.cells (rwA k) 43)) :=
 have hb : Below V.heap.size V (V.alloc (.cells (rwA k) 43)) := (Below.refl _ V).alloc (Nat.le_refl _) _
 {bel := h.bel.trans (hb.mono h.bel.size), r0 := fun h1 h2 => (h.r0 h1 h2).below hb, r1 := fun h1 h2 => (h.r1 h1 h2).below hb, r2 := fun h1 h2 => (h.r2 h1 h2).below hb, r3 := fun h1 => (h.r3 h1).below hb, c1 := h.c1, c2 := h.c2, c3 := h.c3
  kx := fun _ => ⟨V.heap.size, rfl, heap_alloc_last V _, fun h1 h2 => (h.r0 h1 h2).ne, fun h1 h2 => (h.r1 h1 h2).ne, fun h1 h2 => (h.r2 h1 h2).ne⟩ }
theorem kx_grown {g : Nat} {x y : Value} (hx : Bx V g (rwA k) 43) (hn : x.ownBlock ≠ some g) (hg : V.grownBy V2 x.ownBlock) (hat : y.ownBlock = x.ownBlock ∨ y.ownBlock = some V.heap.size) : Bx V2 g (rwA k) 43 ∧ y.ownBlock ≠ some g :=
 ⟨(hg.block g hx.lt (Ne.symm hn)).trans hx, fun e => hat.elim (fun h => hn (h.symm.trans e)) fun h => by
  have h2 := h.symm.trans e
  have := hx.lt
  simp only [Option.some.injEq] at h2
  omega⟩
theorem CH.one (h : CH V0 k L1 L2 L3 true false false false bk x0 x1 x2 x3 xk V) (hO : Row V0 V2 v L1) (hb : Below V0.heap.size V V2) (hg : V.grownBy V2 x0.ownBlock) (hat : v.ownBlock = x0.ownBlock ∨ v.ownBlock = some V.heap.size) : CH V0 k L1 L2 L3 true true false false bk x0 v x2 x3 xk V2 :=
 {bel := h.bel.trans hb, r0 := fun _ h1 => (by cases h1), r1 := fun _ _ => hO, r2 := fun h1 => (by cases h1), r3 := fun h1 => (by cases h1), c1 := fun _ => rfl, c2 := fun h1 => (by cases h1), c3 := fun h1 => (by cases h1)
  kx := fun hk => by
   obtain ⟨g, e, hx, h0, -⟩ := h.kx hk
   obtain ⟨h1, h2⟩ := kx_grown hx (h0 rfl rfl) hg hat
   exact ⟨g, e, h1, fun _ h3 => (by cases h3), fun _ _ => h2, fun h3 => (by cases h3)⟩ }
theorem CH.two (h : CH V0 k L1 L2 L3 b0 true false false bk x0 x1 x2 x3 xk V) (hO : Row V0 V2 v L2) (hb : Below V0.heap.size V V2) (hg : V.grownBy V2 x1.ownBlock) (hat : v.ownBlock = x1.ownBlock ∨ v.ownBlock = some V.heap.size) : CH V0 k L1 L2 L3 b0 true true false bk x0 x1 v x3 xk V2 :=
 {bel := h.bel.trans hb, r0 := fun _ h1 => (by cases h1), r1 := fun _ h1 => (by cases h1), r2 := fun _ _ => hO, r3 := fun h1 => (by cases h1), c1 := h.c1, c2 := fun _ => rfl, c3 := fun h1 => (by cases h1)
  kx := fun hk => by
   obtain ⟨g, e, hx, -, h0, -⟩ := h.kx hk
   obtain ⟨h1, h2⟩ := kx_grown hx (h0 rfl rfl) hg hat
   exact ⟨g, e, h1, fun _ h3 => (by cases h3), fun _ h3 => (by cases h3), fun _ _ => h2⟩ }
theorem CH.three (h : CH V0 k L1 L2 L3 b0 b1 true false bk x0 x1 x2 x3 xk V) (hO : Row V0 V2 v L3) (hb : Below V0.heap.size V V2) (hg : V.grownBy V2 x2.ownBlock) (hat : v.ownBlock = x2.ownBlock ∨ v.ownBlock = some V.heap.size) : CH V0 k L1 L2 L3 b0 b1 true true bk x0 x1 x2 v xk V2 :=
 have hb1 := h.c2 rfl
 {bel := h.bel.trans hb, r0 := fun _ h1 => (by rw [hb1] at h1; cases h1), r1 := fun _ h1 => (by cases h1), r2 := fun _ h1 => (by cases h1), r3 := fun _ => hO, c1 := h.c1, c2 := h.c2, c3 := fun _ => rfl
  kx := fun hk => by
   obtain ⟨g, e, hx, -, -, h0⟩ := h.kx hk
   obtain ⟨h1, h2⟩ := kx_grown hx (h0 rfl rfl) hg hat
   exact ⟨g, e, h1, fun _ h3 => (by rw [hb1] at h3; cases h3), fun _ h3 => (by cases h3), fun _ h3 => (by cases h3)⟩ }
theorem CH.start (V0 : World) (k : Rw) (L1 L2 L3 : List Rw) (x0 x1 x2 x3 xk : Value) : CH V0 k L1 L2 L3 false false false false false x0 x1 x2 x3 xk { V0 with drawn := V0.drawn + 1 } :=
 {bel := (Below.refl _ V0).drew, r0 := fun h1 => (by cases h1), r1 := fun h1 => (by cases h1), r2 := fun h1 => (by cases h1), r3 := fun h1 => (by cases h1), c1 := fun h1 => (by cases h1), c2 := fun h1 => (by cases h1), c3 := fun h1 => (by cases h1), kx := fun h1 => (by cases h1) }
end
section
variable {M : List Rw} {k : Ky} {i : Nat}
theorem take_one (hi : i < M.length) : M.take (i + 1) = M.take i ++ [M.getD i zrw] := by
 rw [List.take_add_one, List.getElem?_eq_getElem hi, Option.toList_some, getD_lt M i zrw hi]
theorem has_step (hi : i < M.length) : hasR (M.take (i + 1)) k = (hasR (M.take i) k || decide (kx (M.getD i zrw) = k)) := by
 rw [take_one hi, has_app]
 congr 1
 unfold hasR
 simp
theorem has_hit (hi : i < M.length) (h : kx (M.getD i zrw) = k) : hasR M k = true := by
 unfold hasR
 rw [List.any_eq_true]
 exact ⟨_, by rw [getD_lt M i zrw hi]; exact List.getElem_mem hi, decide_eq_true h⟩
theorem pos_last : ∀ (A : List Rw) (x : Rw) (j p : Nat), posA k (A ++ [x]) j p = if kl (kx x) k then j + A.length + 1 else posA k A j p
 | [], x, j, p => by
  rw [List.nil_append, posA, posA, posA]
  rfl
 | y :: r, x, j, p => by
  rw [List.cons_append, posA, pos_last r x, posA, List.length_cons, show j + 1 + r.length + 1 = j + (r.length + 1) + 1 by omega]
theorem pos_step (hi : i < M.length) : posA k (M.take (i + 1)) 0 0 = if kl (kx (M.getD i zrw)) k then i + 1 else posA k (M.take i) 0 0 := by
 rw [take_one hi, pos_last, List.length_take, Nat.min_eq_left (by omega), Nat.zero_add]
theorem pos_le : ∀ (A : List Rw) (j p : Nat), p ≤ j → posA k A j p ≤ j + A.length
 | [], j, p, h => h
 | y :: r, j, p, h => by
  rw [posA, List.length_cons]
  have := pos_le r (j + 1) (if kl (kx y) k then j + 1 else p) (by split <;> omega)
  omega
theorem rem_hit (hi : i < M.length) (h0 : hasR (M.take i) k = false) (h : kx (M.getD i zrw) = k) : remR k M = M.take i ++ M.drop (i + 1) := by
 have e : M = M.take i ++ M.getD i zrw :: M.drop (i + 1) := by
  rw [getD_lt M i zrw hi, ← List.drop_eq_getElem_cons hi, List.take_append_drop]
 have hA : ∀ (A B : List Rw), hasR A k = false → remR k (A ++ B) = A ++ remR k B := by
  intro A B
  induction A with
  | nil => intro _; rfl
  | cons x r ih =>
   intro hh
   unfold hasR at hh
   rw [List.any_cons, Bool.or_eq_false_iff] at hh
   rw [List.cons_append, remR, if_neg (by simpa using hh.1), ih hh.2]
   rfl
 conv => lhs; rw [e]
 rw [hA _ _ h0, remR, if_pos h]
end
/-- What the reference's functions on rows answer. -/
def RwO (w : World) (al : Option Addr) (M M2 : List Rw) (b : Bool) (e : Ending) (w' : World) : Prop := ∃ a2 c2, e = .returned (.tuple #[.slice a2 M2.length c2, .bool b]) ∧ Cs w' a2 (rwcs M2) ∧ M2.length ≤ c2 ∧ (∀ k, rb a2 (rwcs M2) k → rb al (rwcs M) k ∨ w.heap.size ≤ k) ∧ Below w.heap.size w w'
theorem RwO.new {w V : World} {al : Option Addr} {M M2 : List Rw} {b : Bool} {v : Value} (h : Rowrw V w.heap.size v M2) (hb : Below w.heap.size w V) : RwO w al M M2 b (.returned (.tuple #[v, .bool b])) V := by
 obtain ⟨a2, c2, rfl, h1, h2⟩ := h.cs
 exact ⟨a2, c2, rfl, h1, h2, fun k hk => .inr (own_rb' h hk), hb⟩
set_option maxRecDepth 100000 in
set_option maxHeartbeats 8000000 in
theorem r_add {w : World} {al : Option Addr} {c : Nat} {M : List Rw} (hR : Cs w al (rwcs M)) (hcc : M.length ≤ c) (hl : M.length ≤ 1000) (k : Ky) (id : Int) : Calls Try.prog 27 #[.slice al M.length c, .string k.1, .int .u64 k.2, .int .i64 id] w (RwO w al M (addR M k id) (!hasR M k)) := by
 have HRG : Hid (∀ V, Below w.heap.size w V → ∀ i, i < M.length → ∃ b off, al = some ⟨b, off, none⟩ ∧ V.rangeAt b (off + i * 3) (rwl (M.getD i zrw))) := Lib.hid fun V hV i hi => by
  obtain ⟨b, off, h1, -, h2⟩ := rw_rg (hR.below hV) hi
  exact ⟨b, off, h1, h2⟩
 have HOLD : Hid (∀ V, Below w.heap.size w V → hasR M k = true → RwO w al M (addR M k id) (!hasR M k) (.returned (.tuple #[.slice al M.length c, .bool false])) V) := Lib.hid fun V hV h => by
  rw [add_no h, h]
  exact ⟨al, c, rfl, hR.below hV, hcc, fun k hk => .inl hk, hV⟩
 have HNEW : Hid (∀ V v, Below w.heap.size w V → hasR M k = false → Rowrw V w.heap.size v (M.take (posA k M 0 0) ++ [(k.1, k.2, id)] ++ M.drop (posA k M 0 0)) → RwO w al M (addR M k id) (!hasR M k) (.returned (.tuple #[v, .bool true])) V) := Lib.hid fun V v hV h hv => by
  have e : addR M k id = M.take (posA k M 0 0) ++ [(k.1, k.2, id)] ++ M.drop (posA k M 0 0) := by unfold addR; rw [if_neg (by rw [h]; exact Bool.false_ne_true)]
  rw [e, h]
  exact RwO.new hv hV
 have HMR := Lib.hid (fun V (hV : Below w.heap.size w V) => hR.below hV)
 have HAS : Hid (∀ i, i < M.length → hasR (M.take (i + 1)) k = (hasR (M.take i) k || decide (kx (M.getD i zrw) = k))) := Lib.hid fun i hi => has_step hi
 have HHI : Hid (∀ i, i < M.length → kx (M.getD i zrw) = k → hasR M k = true) := Lib.hid fun i hi h => has_hit hi h
 have HPS : Hid (∀ i, i < M.length → posA k (M.take (i + 1)) 0 0 = if kl (kx (M.getD i zrw)) k then i + 1 else posA k (M.take i) 0 0) := Lib.hid fun i hi => pos_step hi
 have HPL : Hid (∀ i, posA k (M.take i) 0 0 ≤ i) := Lib.hid fun i => by have := pos_le (k := k) (M.take i) 0 0 (Nat.le_refl 0); rw [List.length_take] at this; omega
 obtain ⟨n, hn⟩ : ∃ n, M.length = n := ⟨_, rfl⟩
 have HN := Lib.hid hn
 obtain ⟨PO, hPO⟩ : ∃ PO, RwO w al M (addR M k id) (!hasR M k) = PO := ⟨_, rfl⟩
 rw [hPO] at HOLD HNEW ⊢
 rw [hn] at HRG HOLD HAS HHI HPS hl hcc ⊢
 clear hR hn hPO
 go_enter Try.func27, Try.ntmps27
 go_upto_region 1 with fail
 refine wl <| gz1 (.int .i64 0) <| wn ?_
 simp only [pu]
 go_upto_region 2 with fail
 refine wl <| gz3 (.slice al n c) (.int .i64 n) (.int .i64 0) <| wn ?_
 simp only [pu]
 go_wp2_with fail
 go_loopg [10, 15] n (fun gg s10 s15 wx => ∃ (i p : Nat), s15 = .int .i64 i ∧ s10 = .int .i64 p ∧ i ≤ n ∧ gg + i = n ∧ Hid (posA k (M.take i) 0 0 = p ∧ hasR (M.take i) k = false) ∧ Hid (Below w.heap.size w wx))
 case atStart => exact ⟨0, 0, rfl, rfl, by omega, by omega, Lib.hid ⟨rfl, rfl⟩, Lib.hid (Below.refl _ _)⟩
 case round =>
  obtain ⟨i, p, rfl, rfl, hin, hg, HP, HR⟩ := hrel
  have HGK : Hid (gk + i = n) := Lib.hid hg
  clear hg
  by_cases hlt : i < n
  ·skip
   obtain ⟨b, off, hbb, hrg⟩ := HRG.out wr HR.out i hlt
   obtain rfl := hbb
   obtain ⟨x, hx⟩ : ∃ x, M.getD i zrw = x := ⟨_, rfl⟩
   rw [hx] at hrg
   obtain ⟨V2, hst2, hb2, hX2⟩ := new_bx (c := rwA zrw) (c' := rwA x) (ty := 43) wr rfl (rwA_one x) (by kernel_rfl)
   have HR2 : Hid (Below w.heap.size w V2) := Lib.hid (HR.out.trans (hb2.mono HR.out.size))
   go_upto_region 3 with fail
   refine wl <| gzb (lss_n rfl (i) (n) dT) <| wn ?_
   simp only [pu]
   go_upto_region 4 with fail
   refine wl <| gz1 (.int .i64 i) <| gzv (.pointer (some ⟨b, off + i * 3, none⟩)) (idx_rw b off n c i hlt _ _ _ rfl (by kernel_rfl) (by kernel_rfl)) <| gzl rfl ⟨b, off + i * 3, none⟩ (.agg (rwA x)) (load_rw hrg) ?_
   simp only [pu]
   refine run_to rfl (some 12) rfl (.pointer (some ⟨wr.heap.size, 0, none⟩)) (wr.alloc (.cells (rwA zrw) 43)) (by kernel_rfl) ?_
   simp only [pu]
   refine gz1 (.int .i64 i) <| gzs rfl (hst2) <| wn ?_
   simp only [pu]
   obtain ⟨g5, hg5⟩ : ∃ g, wr.heap.size = g := ⟨_, rfl⟩
   rw [hg5] at hX2 ⊢
   clear hst2 hb2 hg5
   have hAS := HAS.out i hlt
   have hPS := HPS.out i hlt
   have hHI := HHI.out i hlt
   rw [hx] at hAS hPS hHI
   rw [HP.out.2, Bool.false_or] at hAS
   rw [HP.out.1] at hPS
   have HAS2 := Lib.hid hAS
   have HPS2 := Lib.hid hPS
   have HHI2 := Lib.hid hHI
   clear hAS hPS hHI hx hrg HR
   by_cases he9 : x.1 = k.1
   ·skip
    by_cases hs9 : x.2.1 = k.2
    ·skip
     go_upto_region 5 with fail
     refine wl <| gz1 (.pointer (some ⟨g5, 0, none⟩)) <| gzl rfl ⟨g5, 0, none⟩ (.string x.1) (hX2.load (i := 0) rfl (by kernel_rfl)) <| gz1 (.string k.1) <| gzw (.bool true) (eql_s rfl x.1 k.1 (by rw [beqB]; exact decide_eq_true he9)) <|
      gz2 (.bool true) (.pointer (some ⟨g5, 1, none⟩)) <| gzl rfl ⟨g5, 1, none⟩ (.int .u64 x.2.1) (hX2.load (i := 1) rfl (by kernel_rfl)) <| gz1 (.int .u64 k.2) <| gzb (eql_w rfl x.2.1 k.2 (decide_eq_true hs9)) <| gz1 (.bool true) <| wn ?_
     simp only [pu]
     have HE := Lib.hid (HOLD.out V2 HR2.out (HHI2.out (Prod.ext he9 hs9)))
     clear HAS2 HPS2 HHI2 hX2 HP HOLD HNEW
     go_upto_region 6 with fail
     refine wl <| gz3 (.slice (some ⟨b, off, none⟩) n c) (.slice (some ⟨b, off, none⟩) n c) (.bool false) <| wn ?_
     simp only [pu]
     go_wp2_with fail
     exact HE.out
    ·skip
     go_upto_region 5 with fail
     refine wl <| gz1 (.pointer (some ⟨g5, 0, none⟩)) <| gzl rfl ⟨g5, 0, none⟩ (.string x.1) (hX2.load (i := 0) rfl (by kernel_rfl)) <| gz1 (.string k.1) <| gzw (.bool true) (eql_s rfl x.1 k.1 (by rw [beqB]; exact decide_eq_true he9)) <|
      gz2 (.bool true) (.pointer (some ⟨g5, 1, none⟩)) <| gzl rfl ⟨g5, 1, none⟩ (.int .u64 x.2.1) (hX2.load (i := 1) rfl (by kernel_rfl)) <| gz1 (.int .u64 k.2) <| gzb (eql_w rfl x.2.1 k.2 (decide_eq_false hs9)) <| gz1 (.bool false) <| wn ?_
     simp only [pu]
     have hl9 : ltS x.1 k.1 = false := by rw [he9]; exact ltS_irr _
     by_cases hq9 : x.2.1 < k.2
     ·skip
      go_upto_region 7 with fail
      refine wl <| gz1 (.pointer (some ⟨g5, 0, none⟩)) <| gzl rfl ⟨g5, 0, none⟩ (.string x.1) (hX2.load (i := 0) rfl (by kernel_rfl)) <| gz1 (.string k.1) <| gzw (.bool false) (lss_s rfl x.1 k.1 hl9) <|
       gz2 (.bool false) (.pointer (some ⟨g5, 0, none⟩)) <| gzl rfl ⟨g5, 0, none⟩ (.string x.1) (hX2.load (i := 0) rfl (by kernel_rfl)) <| gz1 (.string k.1) <| gzw (.bool true) (eql_s rfl x.1 k.1 (by rw [beqB]; exact decide_eq_true he9)) <|
       gz2 (.bool true) (.pointer (some ⟨g5, 1, none⟩)) <| gzl rfl ⟨g5, 1, none⟩ (.int .u64 x.2.1) (hX2.load (i := 1) rfl (by kernel_rfl)) <| gz1 (.int .u64 k.2) <| gzb (lss_w rfl x.2.1 k.2 (decide_eq_true hq9)) <| gz2 (.bool true) (.bool true) <|
       wpList_nil ?_
      simp only [pu]
      have hkl : kl (kx x) k = true := kl_iff.2 (.inr ⟨he9, hq9⟩)
      have HE : Hid (posA k (M.take (i + 1)) 0 0 = i + 1 ∧ hasR (M.take (i + 1)) k = false) := Lib.hid ⟨by rw [HPS2.out, hkl]; rfl, by rw [HAS2.out]; exact decide_eq_false (fun h => hs9 (congrArg Prod.snd h))⟩
      clear hkl HAS2 HPS2 HHI2 hX2 HP
      go_upto_region 8 with fail
      refine wl <| gz1 (.int .i64 i) <| gzv (.int .i64 (i + 1 : Nat)) (add_one rfl i (by omega) (by kernel_rfl) _) <| gz1 (.int .i64 (i + 1 : Nat)) <| wn ?_
      simp only [pu]
      go_upto_region 9 with fail
      refine wl <| gzv (.int .i64 (i + 1 : Nat)) (add_one rfl i (by omega) (by kernel_rfl) _) <| gz1 (.int .i64 (i + 1 : Nat)) <| wn ?_
      simp only [pu]
      go_wp2_with fail
      go_roundg (n - (i + 1))
      case measure => have := HGK.out; omega
      case rel => exact ⟨i + 1, i + 1, rfl, rfl, by omega, by omega, HE, HR2⟩
     ·skip
      go_upto_region 7 with fail
      refine wl <| gz1 (.pointer (some ⟨g5, 0, none⟩)) <| gzl rfl ⟨g5, 0, none⟩ (.string x.1) (hX2.load (i := 0) rfl (by kernel_rfl)) <| gz1 (.string k.1) <| gzw (.bool false) (lss_s rfl x.1 k.1 hl9) <|
       gz2 (.bool false) (.pointer (some ⟨g5, 0, none⟩)) <| gzl rfl ⟨g5, 0, none⟩ (.string x.1) (hX2.load (i := 0) rfl (by kernel_rfl)) <| gz1 (.string k.1) <| gzw (.bool true) (eql_s rfl x.1 k.1 (by rw [beqB]; exact decide_eq_true he9)) <|
       gz2 (.bool true) (.pointer (some ⟨g5, 1, none⟩)) <| gzl rfl ⟨g5, 1, none⟩ (.int .u64 x.2.1) (hX2.load (i := 1) rfl (by kernel_rfl)) <| gz1 (.int .u64 k.2) <| gzb (lss_w rfl x.2.1 k.2 (decide_eq_false hq9)) <|
       gz2 (.bool false) (.bool false) <| wn ?_
      simp only [pu]
      have hkl : kl (kx x) k = false := by rw [Bool.eq_false_iff]; exact fun h => (kl_iff.1 h).elim (fun h2 => by rw [show ltS (kx x).1 k.1 = ltS x.1 k.1 from rfl, hl9] at h2; cases h2) fun h2 => hq9 h2.2
      have HE : Hid (posA k (M.take (i + 1)) 0 0 = p ∧ hasR (M.take (i + 1)) k = false) := Lib.hid ⟨by rw [HPS2.out, hkl]; rfl, by rw [HAS2.out]; exact decide_eq_false (fun h => hs9 (congrArg Prod.snd h))⟩
      clear hkl HAS2 HPS2 HHI2 hX2 HP
      go_upto_region 9 with fail
      refine wl <| gzv (.int .i64 (i + 1 : Nat)) (add_one rfl i (by omega) (by kernel_rfl) _) <| gz1 (.int .i64 (i + 1 : Nat)) <| wn ?_
      simp only [pu]
      go_wp2_with fail
      go_roundg (n - (i + 1))
      case measure => have := HGK.out; omega
      case rel => exact ⟨i + 1, p, rfl, rfl, by omega, by omega, HE, HR2⟩
   ·skip
    go_upto_region 5 with fail
    refine wl <| gz1 (.pointer (some ⟨g5, 0, none⟩)) <| gzl rfl ⟨g5, 0, none⟩ (.string x.1) (hX2.load (i := 0) rfl (by kernel_rfl)) <| gz1 (.string k.1) <| gzw (.bool false) (eql_s rfl x.1 k.1 (by rw [beqB]; exact decide_eq_false he9)) <|
     gz6 (.bool false) undef undef undef undef (.bool false) <| wn ?_
    simp only [pu]
    cases hl9 : ltS x.1 k.1
    ·skip
     go_upto_region 7 with fail
     refine wl <| gz1 (.pointer (some ⟨g5, 0, none⟩)) <| gzl rfl ⟨g5, 0, none⟩ (.string x.1) (hX2.load (i := 0) rfl (by kernel_rfl)) <| gz1 (.string k.1) <| gzw (.bool false) (lss_s rfl x.1 k.1 hl9) <|
      gz2 (.bool false) (.pointer (some ⟨g5, 0, none⟩)) <| gzl rfl ⟨g5, 0, none⟩ (.string x.1) (hX2.load (i := 0) rfl (by kernel_rfl)) <| gz1 (.string k.1) <| gzw (.bool false) (eql_s rfl x.1 k.1 (by rw [beqB]; exact decide_eq_false he9)) <|
      gz6 (.bool false) undef undef undef undef (.bool false) <| gz1 (.bool false) <| wn ?_
     simp only [pu]
     have hkl : kl (kx x) k = false := by rw [Bool.eq_false_iff]; exact fun h => (kl_iff.1 h).elim (fun h2 => by rw [show ltS (kx x).1 k.1 = ltS x.1 k.1 from rfl, hl9] at h2; cases h2) fun h2 => he9 h2.1
     have HE : Hid (posA k (M.take (i + 1)) 0 0 = p ∧ hasR (M.take (i + 1)) k = false) := Lib.hid ⟨by rw [HPS2.out, hkl]; rfl, by rw [HAS2.out]; exact decide_eq_false (fun h => he9 (congrArg Prod.fst h))⟩
     clear hkl HAS2 HPS2 HHI2 hX2 HP
     go_upto_region 9 with fail
     refine wl <| gzv (.int .i64 (i + 1 : Nat)) (add_one rfl i (by omega) (by kernel_rfl) _) <| gz1 (.int .i64 (i + 1 : Nat)) <| wn ?_
     simp only [pu]
     go_wp2_with fail
     go_roundg (n - (i + 1))
     case measure => have := HGK.out; omega
     case rel => exact ⟨i + 1, p, rfl, rfl, by omega, by omega, HE, HR2⟩
    ·skip
     go_upto_region 7 with fail
     refine wl <| gz1 (.pointer (some ⟨g5, 0, none⟩)) <| gzl rfl ⟨g5, 0, none⟩ (.string x.1) (hX2.load (i := 0) rfl (by kernel_rfl)) <| gz1 (.string k.1) <| gzw (.bool true) (lss_s rfl x.1 k.1 hl9) <| gz6 (.bool true) undef undef undef undef undef <|
      gz6 undef undef undef undef undef (.bool true) <| wn ?_
     simp only [pu]
     have hkl : kl (kx x) k = true := kl_iff.2 (.inl hl9)
     have HE : Hid (posA k (M.take (i + 1)) 0 0 = i + 1 ∧ hasR (M.take (i + 1)) k = false) := Lib.hid ⟨by rw [HPS2.out, hkl]; rfl, by rw [HAS2.out]; exact decide_eq_false (fun h => he9 (congrArg Prod.fst h))⟩
     clear hkl HAS2 HPS2 HHI2 hX2 HP
     go_upto_region 8 with fail
     refine wl <| gz1 (.int .i64 i) <| gzv (.int .i64 (i + 1 : Nat)) (add_one rfl i (by omega) (by kernel_rfl) _) <| gz1 (.int .i64 (i + 1 : Nat)) <| wn ?_
     simp only [pu]
     go_upto_region 9 with fail
     refine wl <| gzv (.int .i64 (i + 1 : Nat)) (add_one rfl i (by omega) (by kernel_rfl) _) <| gz1 (.int .i64 (i + 1 : Nat)) <| wn ?_
     simp only [pu]
     go_wp2_with fail
     go_roundg (n - (i + 1))
     case measure => have := HGK.out; omega
     case rel => exact ⟨i + 1, i + 1, rfl, rfl, by omega, by omega, HE, HR2⟩
  ·skip
   obtain rfl : i = n := by omega
   go_upto_region 3 with fail
   refine wl <| gzb (lss_n rfl (i) (i) dF) <| wn ?_
   simp only [pu]
   have hPI := HP.out
   rw [← HN.out, List.take_length] at hPI
   have hpi := HPL.out i
   rw [HP.out.1] at hpi
   have hNEW := HNEW.out
   rw [hPI.1] at hNEW
   have HNEW2 := Lib.hid hNEW
   have HHF := Lib.hid hPI.2
   have HTL : Hid ((M.take p).length = p) := Lib.hid (by rw [List.length_take, HN.out]; omega)
   have HDL : Hid ((M.drop p).length = i - p) := Lib.hid (by rw [List.length_drop, HN.out])
   have h0 := CH.start wr (k.1, k.2, id) (M.take p) (M.take p ++ [(k.1, k.2, id)]) (M.take p ++ [(k.1, k.2, id)] ++ M.drop p) undef undef undef undef undef
   have HR9 := HR
   generalize wr = V7 at *
   clear hPI hNEW HP HPS HAS HHI HOLD HPL HRG HR
   go_upto_region 10 with fail
   refine wp_region_inv (fun listed act9 V => ∃ b0 b1 b2 b3 b4 b5 b6 b7 b8 b9 b10 b11 b12 b13 b14 b15 b16 : Bool, ∃ x50 x54 x59 x60 x64 : Value, listed = #[b0, b1, b2, b3, b4, b5, b6, b7, b8, b9, b10, b11, b12, b13, b14, b15, b16] ∧ act9 = { tmps := #[.slice al i c, .string k.1, .int .u64 k.2, .int .i64 id, undef, undef, undef, undef, (cond b15 (x64) (u8)), (cond b16 (.bool true) (u9)), .int .i64 p, u11, u12, .slice al i c, .int .i64 i, .int .i64 i, .bool false, u17, u18, u19, u20, u21, u22, u23, u24, u25, u26, u27, u28, u29, u30, u31, u32, u33, u34, u35, u36, u37, u38, u39, u40, u41, u42, u43, u44, u45, u46, u47, u48, u49, x50, (cond b1 (.slice al i c) undef), (cond b2 (.int .i64 p) undef), (cond b3 (.slice al p c) undef), x54, (cond b5 (.string k.1) undef), (cond b6 (.int .u64 k.2) undef), (cond b7 (.int .i64 id) undef), (cond b8 (.agg #[.string k.1, .int .u64 k.2, .int .i64 id]) undef), x59, x60, (cond b11 (.slice al i c) undef), (cond b12 (.int .i64 p) undef), (cond b13 (.slice (fromS 3 al c p) (i - p) (c - p)) undef), x64], defers := [] } ∧ CH V7 (k.1, k.2, id) (M.take p) (M.take p ++ [(k.1, k.2, id)]) (M.take p ++ [(k.1, k.2, id)] ++ M.drop p) b0 b4 b10 b14 b9 x50 x54 x60 x64 x59 V ∧ (b15 = true → b14 = true)) (by kernel_rfl) (by kernel_rfl) ?_ ?_ ?_
   ·exact ⟨false, false, false, false, false, false, false, false, false, false, false, false, false, false, false, false, false, undef, undef, undef, undef, undef, rfl, rfl, h0, fun h => (by cases h)⟩
   ·intro i9 listed act9 V hi9 hr hJ
    obtain ⟨b0, b1, b2, b3, b4, b5, b6, b7, b8, b9, b10, b11, b12, b13, b14, b15, b16, x50, x54, x59, x60, x64, rfl, rfl, hF, hA⟩ := hJ
    have hi2 : i9 < 17 := hi9
    have hi3 : i9 = 0 ∨ i9 = 1 ∨ i9 = 2 ∨ i9 = 3 ∨ i9 = 4 ∨ i9 = 5 ∨ i9 = 6 ∨ i9 = 7 ∨ i9 = 8 ∨ i9 = 9 ∨ i9 = 10 ∨ i9 = 11 ∨ i9 = 12 ∨ i9 = 13 ∨ i9 = 14 ∨ i9 = 15 ∨ i9 = 16 := by omega
    rcases hi3 with rfl | rfl | rfl | rfl | rfl | rfl | rfl | rfl | rfl | rfl | rfl | rfl | rfl | rfl | rfl | rfl | rfl
    ·obtain rfl : b0 = false := ready_self hr
     obtain rfl : b4 = false := by cases b4; rfl; exact absurd (hF.c1 rfl) (by decide)
     obtain rfl : b10 = false := by cases b10; rfl; exact absurd (hF.c2 rfl) (by decide)
     obtain rfl : b14 = false := by cases b14; rfl; exact absurd (hF.c3 rfl) (by decide)
     refine st_build rfl (by kernel_rfl) (some 50) rfl 26 0 #[] rfl #[] (by kernel_rfl) (.slice (some ⟨V.heap.size, 0, none⟩) 0 0) _ (nil_rw V) ?_
     exact ⟨true, b1, b2, b3, false, b5, b6, b7, b8, b9, false, b11, b12, b13, false, b15, b16, _, x54, x59, x60, x64, rfl, rfl, hF.nil, hA⟩
    ·obtain rfl : b1 = false := ready_self hr
     refine st_val rfl (by kernel_rfl) (some 51) rfl (.slice al i c) V (by kernel_rfl) ?_
     exact ⟨b0, true, b2, b3, b4, b5, b6, b7, b8, b9, b10, b11, b12, b13, b14, b15, b16, x50, x54, x59, x60, x64, rfl, rfl, hF, hA⟩
    ·obtain rfl : b2 = false := ready_self hr
     refine st_val rfl (by kernel_rfl) (some 52) rfl (.int .i64 p) V (by kernel_rfl) ?_
     exact ⟨b0, b1, true, b3, b4, b5, b6, b7, b8, b9, b10, b11, b12, b13, b14, b15, b16, x50, x54, x59, x60, x64, rfl, rfl, hF, hA⟩
    ·obtain rfl : b3 = false := ready_self hr
     obtain rfl : b1 = true := ready_dep hr 1 (by kernel_rfl)
     obtain rfl : b2 = true := ready_dep hr 2 (by kernel_rfl)
     refine st_slice_to rfl (by kernel_rfl) (some 53) rfl 26 (.tmp 51) (.tmp 52) rfl (.slice al i c) (.int .i64 (p : Int)) (.slice al p c) (by kernel_rfl) (by kernel_rfl) (cut_rw_to al i c p V (by omega)) ?_
     exact ⟨b0, true, true, true, b4, b5, b6, b7, b8, b9, b10, b11, b12, b13, b14, b15, b16, x50, x54, x59, x60, x64, rfl, rfl, hF, hA⟩
    ·obtain rfl : b4 = false := ready_self hr
     obtain rfl : b0 = true := ready_dep hr 0 (by kernel_rfl)
     obtain rfl : b3 = true := ready_dep hr 3 (by kernel_rfl)
     obtain rfl : b10 = false := by cases b10; rfl; exact absurd (hF.c2 rfl) (by decide)
     obtain rfl : b14 = false := by cases b14; rfl; exact absurd (hF.c3 rfl) (by decide)
     have hO := hF.r0 rfl rfl
     obtain ⟨v, V2, hap, hO2, hb2, hg2, hat2⟩ := hO.app hF.bel.size al p c (M.take p) (by rw [← rwcs_take]; exact (HMR.out _ (HR9.out.trans (hF.bel.mono HR9.out.size))).take _) HTL.out (by simp) (by omega)
     refine st_append rfl (by kernel_rfl) (some 54) rfl 26 rfl (.tmp 50) (.tmp 53) 26 rfl x50 (.slice al p c) v V2 (by kernel_rfl) (by kernel_rfl) hap ?_
     exact ⟨true, b1, b2, true, true, b5, b6, b7, b8, b9, false, b11, b12, b13, false, b15, b16, x50, v, x59, x60, x64, rfl, rfl, hF.one (by rw [List.nil_append] at hO2; exact hO2) hb2 hg2 hat2, hA⟩
    ·obtain rfl : b5 = false := ready_self hr
     refine st_val rfl (by kernel_rfl) (some 55) rfl (.string k.1) V (by kernel_rfl) ?_
     exact ⟨b0, b1, b2, b3, b4, true, b6, b7, b8, b9, b10, b11, b12, b13, b14, b15, b16, x50, x54, x59, x60, x64, rfl, rfl, hF, hA⟩
    ·obtain rfl : b6 = false := ready_self hr
     refine st_val rfl (by kernel_rfl) (some 56) rfl (.int .u64 k.2) V (by kernel_rfl) ?_
     exact ⟨b0, b1, b2, b3, b4, b5, true, b7, b8, b9, b10, b11, b12, b13, b14, b15, b16, x50, x54, x59, x60, x64, rfl, rfl, hF, hA⟩
    ·obtain rfl : b7 = false := ready_self hr
     refine st_val rfl (by kernel_rfl) (some 57) rfl (.int .i64 id) V (by kernel_rfl) ?_
     exact ⟨b0, b1, b2, b3, b4, b5, b6, true, b8, b9, b10, b11, b12, b13, b14, b15, b16, x50, x54, x59, x60, x64, rfl, rfl, hF, hA⟩
    ·obtain rfl : b8 = false := ready_self hr
     obtain rfl : b5 = true := ready_dep hr 5 (by kernel_rfl)
     obtain rfl : b6 = true := ready_dep hr 6 (by kernel_rfl)
     obtain rfl : b7 = true := ready_dep hr 7 (by kernel_rfl)
     refine st_val rfl (by kernel_rfl) (some 58) rfl (.agg #[.string k.1, .int .u64 k.2, .int .i64 id]) V (by kernel_rfl) ?_
     exact ⟨b0, b1, b2, b3, b4, true, true, true, true, b9, b10, b11, b12, b13, b14, b15, b16, x50, x54, x59, x60, x64, rfl, rfl, hF, hA⟩
    ·obtain rfl : b9 = false := ready_self hr
     obtain rfl : b8 = true := ready_dep hr 8 (by kernel_rfl)
     refine st_build rfl (by kernel_rfl) (some 59) rfl 26 1 #[(0, .tmp 58)] rfl #[(0, .agg (rwA (k.1, k.2, id)))] (by kernel_rfl) (.slice (some ⟨V.heap.size, 0, none⟩) 1 1) _ (build_rw (k.1, k.2, id) V) ?_
     exact ⟨b0, b1, b2, b3, b4, b5, b6, b7, true, true, b10, b11, b12, b13, b14, b15, b16, x50, x54, _, x60, x64, rfl, rfl, hF.key, hA⟩
    ·obtain rfl : b10 = false := ready_self hr
     obtain rfl : b4 = true := ready_dep hr 4 (by kernel_rfl)
     obtain rfl : b9 = true := ready_dep hr 9 (by kernel_rfl)
     obtain rfl : b14 = false := by cases b14; rfl; exact absurd (hF.c3 rfl) (by decide)
     have hO := hF.r1 rfl rfl
     obtain ⟨gq, rfl, hgx, -⟩ := hF.kx rfl
     have hgc : Cs V (some ⟨gq, 0, none⟩) (rwcs [(k.1, k.2, id)]) := Cs.block (cs := rwl (k.1, k.2, id)) hgx
     obtain ⟨v, V2, hap, hO2, hb2, hg2, hat2⟩ := hO.app hF.bel.size (some ⟨gq, 0, none⟩) 1 1 [(k.1, k.2, id)] hgc rfl (by rw [HTL.out]; omega) (by omega)
     refine st_append rfl (by kernel_rfl) (some 60) rfl 26 rfl (.tmp 54) (.tmp 59) 26 rfl x54 (.slice (some ⟨gq, 0, none⟩) 1 1) v V2 (by kernel_rfl) (by kernel_rfl) hap ?_
     exact ⟨b0, b1, b2, b3, true, b5, b6, b7, b8, true, true, b11, b12, b13, false, b15, b16, x50, x54, _, v, x64, rfl, rfl, hF.two hO2 hb2 hg2 hat2, hA⟩
    ·obtain rfl : b11 = false := ready_self hr
     refine st_val rfl (by kernel_rfl) (some 61) rfl (.slice al i c) V (by kernel_rfl) ?_
     exact ⟨b0, b1, b2, b3, b4, b5, b6, b7, b8, b9, b10, true, b12, b13, b14, b15, b16, x50, x54, x59, x60, x64, rfl, rfl, hF, hA⟩
    ·obtain rfl : b12 = false := ready_self hr
     refine st_val rfl (by kernel_rfl) (some 62) rfl (.int .i64 p) V (by kernel_rfl) ?_
     exact ⟨b0, b1, b2, b3, b4, b5, b6, b7, b8, b9, b10, b11, true, b13, b14, b15, b16, x50, x54, x59, x60, x64, rfl, rfl, hF, hA⟩
    ·obtain rfl : b13 = false := ready_self hr
     obtain rfl : b11 = true := ready_dep hr 11 (by kernel_rfl)
     obtain rfl : b12 = true := ready_dep hr 12 (by kernel_rfl)
     refine st_slice_from rfl (by kernel_rfl) (some 63) rfl 26 (.tmp 61) (.tmp 62) rfl (.slice al i c) (.int .i64 ((p : Nat) : Int)) (.slice (fromS 3 al c p) (i - p) (c - p)) (by kernel_rfl) (by kernel_rfl) (cut_rw_from al i c (p) V (by omega)) ?_
     exact ⟨b0, b1, b2, b3, b4, b5, b6, b7, b8, b9, b10, true, true, true, b14, b15, b16, x50, x54, x59, x60, x64, rfl, rfl, hF, hA⟩
    ·obtain rfl : b14 = false := ready_self hr
     obtain rfl : b10 = true := ready_dep hr 10 (by kernel_rfl)
     obtain rfl : b13 = true := ready_dep hr 13 (by kernel_rfl)
     obtain rfl : b15 = false := by cases b15; rfl; exact absurd (hA rfl) (by decide)
     have hO := hF.r2 rfl rfl
     obtain ⟨v, V2, hap, hO2, hb2, hg2, hat2⟩ := hO.app hF.bel.size (fromS 3 al c p) (i - p) (c - p) (M.drop p) (by rw [← rwcs_drop]; exact (HMR.out _ (HR9.out.trans (hF.bel.mono HR9.out.size))).from 3 c p (by rw [rwcs_len, HN.out]; omega)) HDL.out (by rw [List.length_append, HTL.out]; simp; omega) (by omega)
     refine st_append rfl (by kernel_rfl) (some 64) rfl 26 rfl (.tmp 60) (.tmp 63) 26 rfl x60 (.slice (fromS 3 al c p) (i - p) (c - p)) v V2 (by kernel_rfl) (by kernel_rfl) hap ?_
     exact ⟨b0, b1, b2, b3, b4, b5, b6, b7, b8, b9, true, b11, b12, true, true, false, b16, x50, x54, x59, x60, v, rfl, rfl, hF.three hO2 hb2 hg2 hat2, fun h => (by cases h)⟩
    ·obtain rfl : b15 = false := ready_self hr
     obtain rfl : b14 = true := ready_dep hr 14 (by kernel_rfl)
     refine st_val rfl (by kernel_rfl) (some 8) rfl (x64) V (by kernel_rfl) ?_
     exact ⟨b0, b1, b2, b3, b4, b5, b6, b7, b8, b9, b10, b11, b12, b13, true, true, b16, x50, x54, x59, x60, x64, rfl, rfl, hF, fun _ => rfl⟩
    ·obtain rfl : b16 = false := ready_self hr
     refine st_val rfl (by kernel_rfl) (some 9) rfl (.bool true) V (by kernel_rfl) ?_
     exact ⟨b0, b1, b2, b3, b4, b5, b6, b7, b8, b9, b10, b11, b12, b13, b14, b15, true, x50, x54, x59, x60, x64, rfl, rfl, hF, hA⟩
   ·intro act9 V hJ
    obtain ⟨b0, b1, b2, b3, b4, b5, b6, b7, b8, b9, b10, b11, b12, b13, b14, b15, b16, x50, x54, x59, x60, x64, he, rfl, hF, hA⟩ := hJ
    have he : (#[true, true, true, true, true, true, true, true, true, true, true, true, true, true, true, true, true] : Array Bool) = #[b0, b1, b2, b3, b4, b5, b6, b7, b8, b9, b10, b11, b12, b13, b14, b15, b16] := he
    simp only [Array.mk.injEq, List.cons.injEq, and_true] at he
    obtain ⟨rfl, rfl, rfl, rfl, rfl, rfl, rfl, rfl, rfl, rfl, rfl, rfl, rfl, rfl, rfl, rfl, rfl⟩ := he
    simp only [cond_true]
    have hO := hF.r3 rfl
    have HE := Lib.hid (HNEW2.out V x64 (HR9.out.trans (hF.bel.mono HR9.out.size)) HHF.out (own_base hO HR9.out.size))
    clear hF h0 hO HMR
    go_wp2_with fail
    exact HE.out
set_option maxRecDepth 100000 in
set_option maxHeartbeats 8000000 in
theorem r_rem {w : World} {al : Option Addr} {c : Nat} {M : List Rw} (hR : Cs w al (rwcs M)) (hcc : M.length ≤ c) (hl : M.length ≤ 1000) (k : Ky) : Calls Try.prog 26 #[.slice al M.length c, .string k.1, .int .u64 k.2] w (RwO w al M (remR k M) (hasR M k)) := by
 have HRG : Hid (∀ V, Below w.heap.size w V → ∀ i, i < M.length → ∃ b off, al = some ⟨b, off, none⟩ ∧ V.rangeAt b (off + i * 3) (rwl (M.getD i zrw))) := Lib.hid fun V hV i hi => by
  obtain ⟨b, off, h1, -, h2⟩ := rw_rg (hR.below hV) hi
  exact ⟨b, off, h1, h2⟩
 have HOLD : Hid (∀ V, Below w.heap.size w V → hasR M k = false → RwO w al M (remR k M) (hasR M k) (.returned (.tuple #[.slice al M.length c, .bool false])) V) := Lib.hid fun V hV h => by
  rw [rem_no h, h]
  exact ⟨al, c, rfl, hR.below hV, hcc, fun k hk => .inl hk, hV⟩
 have HNEW : Hid (∀ V v i, i < M.length → Below w.heap.size w V → hasR (M.take i) k = false → kx (M.getD i zrw) = k → Rowrw V w.heap.size v (M.take i ++ M.drop (i + 1)) → RwO w al M (remR k M) (hasR M k) (.returned (.tuple #[v, .bool true])) V) := Lib.hid fun V v i hi hV h0 h hv => by
  rw [has_hit hi h, rem_hit hi h0 h]
  exact RwO.new hv hV
 have HMR := Lib.hid (fun V (hV : Below w.heap.size w V) => hR.below hV)
 have HAS : Hid (∀ i, i < M.length → hasR (M.take (i + 1)) k = (hasR (M.take i) k || decide (kx (M.getD i zrw) = k))) := Lib.hid fun i hi => has_step hi
 obtain ⟨n, hn⟩ : ∃ n, M.length = n := ⟨_, rfl⟩
 have HN := Lib.hid hn
 obtain ⟨PO, hPO⟩ : ∃ PO, RwO w al M (remR k M) (hasR M k) = PO := ⟨_, rfl⟩
 rw [hPO] at HOLD HNEW ⊢
 rw [hn] at HRG HOLD HNEW HAS hl hcc ⊢
 clear hR hn hPO
 go_enter Try.func26, Try.ntmps26
 go_upto_region 1 with fail
 refine wl <| gz3 (.slice al n c) (.int .i64 n) (.int .i64 0) <| wn ?_
 simp only [pu]
 go_wp2_with fail
 go_loopg [12] n (fun gg s12 wx => ∃ (i : Nat), s12 = .int .i64 i ∧ i ≤ n ∧ gg + i = n ∧ Hid (hasR (M.take i) k = false) ∧ Hid (Below w.heap.size w wx))
 case atStart => exact ⟨0, rfl, by omega, by omega, Lib.hid rfl, Lib.hid (Below.refl _ _)⟩
 case round =>
  obtain ⟨i, rfl, hin, hg, HP, HR⟩ := hrel
  have HGK : Hid (gk + i = n) := Lib.hid hg
  clear hg
  by_cases hlt : i < n
  ·skip
   obtain ⟨b, off, hbb, hrg⟩ := HRG.out wr HR.out i hlt
   obtain rfl := hbb
   obtain ⟨x, hx⟩ : ∃ x, M.getD i zrw = x := ⟨_, rfl⟩
   rw [hx] at hrg
   obtain ⟨V2, hst2, hb2, hX2⟩ := new_bx (c := rwA zrw) (c' := rwA x) (ty := 43) wr rfl (rwA_one x) (by kernel_rfl)
   have HR2 : Hid (Below w.heap.size w V2) := Lib.hid (HR.out.trans (hb2.mono HR.out.size))
   go_upto_region 2 with fail
   refine wl <| gzb (lss_n rfl (i) (n) dT) <| wn ?_
   simp only [pu]
   go_upto_region 3 with fail
   refine wl <| gz1 (.int .i64 i) <| gzv (.pointer (some ⟨b, off + i * 3, none⟩)) (idx_rw b off n c i hlt _ _ _ rfl (by kernel_rfl) (by kernel_rfl)) <| gzl rfl ⟨b, off + i * 3, none⟩ (.agg (rwA x)) (load_rw hrg) ?_
   simp only [pu]
   refine run_to rfl (some 9) rfl (.pointer (some ⟨wr.heap.size, 0, none⟩)) (wr.alloc (.cells (rwA zrw) 43)) (by kernel_rfl) ?_
   simp only [pu]
   refine gz1 (.int .i64 i) <| gzs rfl (hst2) <| wn ?_
   simp only [pu]
   obtain ⟨g5, hg5⟩ : ∃ g, wr.heap.size = g := ⟨_, rfl⟩
   rw [hg5] at hX2 ⊢
   clear hst2 hb2 hg5
   have hAS := HAS.out i hlt
   have hNW := fun V v hV h => HNEW.out V v i hlt hV HP.out h
   rw [hx] at hAS hNW
   rw [HP.out, Bool.false_or] at hAS
   have HAS2 := Lib.hid hAS
   have HNW2 := Lib.hid hNW
   clear hAS hNW hx hrg HR HNEW
   by_cases he9 : x.1 = k.1
   ·skip
    by_cases hs9 : x.2.1 = k.2
    ·skip
     go_upto_region 4 with fail
     refine wl <| gz1 (.pointer (some ⟨g5, 0, none⟩)) <| gzl rfl ⟨g5, 0, none⟩ (.string x.1) (hX2.load (i := 0) rfl (by kernel_rfl)) <| gz1 (.string k.1) <| gzw (.bool true) (eql_s rfl x.1 k.1 (by rw [beqB]; exact decide_eq_true he9)) <|
      gz2 (.bool true) (.pointer (some ⟨g5, 1, none⟩)) <| gzl rfl ⟨g5, 1, none⟩ (.int .u64 x.2.1) (hX2.load (i := 1) rfl (by kernel_rfl)) <| gz1 (.int .u64 k.2) <| gzb (eql_w rfl x.2.1 k.2 (decide_eq_true hs9)) <| gz1 (.bool true) <| wn ?_
     simp only [pu]
     have hNW := fun V v hV => HNW2.out V v hV (Prod.ext he9 hs9)
     have HNW3 := Lib.hid hNW
     have HTL : Hid ((M.take i).length = i) := Lib.hid (by rw [List.length_take, HN.out]; omega)
     have HDL : Hid ((M.drop (i + 1)).length = n - (i + 1)) := Lib.hid (by rw [List.length_drop, HN.out])
     have h0 := CH.start V2 x (M.take i) (M.take i ++ M.drop (i + 1)) [] u27 u31 u36 undef undef
     have HR9 := HR2
     generalize V2 = V7 at *
     clear hNW HNW2 HP HAS HAS2 HOLD hX2 HR2 HRG
     go_upto_region 5 with fail
     refine wp_region_inv (fun listed act9 V => ∃ b0 b1 b2 b3 b4 b5 b6 b7 b8 b9 b10 b11 : Bool, ∃ x27 x31 x36 : Value, listed = #[b0, b1, b2, b3, b4, b5, b6, b7, b8, b9, b10, b11] ∧ act9 = { tmps := #[.slice (some ⟨b, off, none⟩) n c, .string k.1, .int .u64 k.2, undef, undef, undef, (cond b10 (x36) (u6)), (cond b11 (.bool true) (u7)), .int .i64 i, .pointer (some ⟨g5, 0, none⟩), .slice (some ⟨b, off, none⟩) n c, .int .i64 n, .int .i64 i, .bool true, .int .i64 i, .pointer (some ⟨b, off + i * 3, none⟩), .agg (rwA x), .pointer (some ⟨g5, 0, none⟩), .string x.1, .string k.1, .bool true, .bool true, .pointer (some ⟨g5, 1, none⟩), .int .u64 x.2.1, .int .u64 k.2, .bool true, .bool true, x27, (cond b1 (.slice (some ⟨b, off, none⟩) n c) (u28)), (cond b2 (.int .i64 i) (u29)), (cond b3 (.slice (some ⟨b, off, none⟩) i c) (u30)), x31, (cond b5 (.slice (some ⟨b, off, none⟩) n c) (u32)), (cond b6 (.int .i64 i) (u33)), (cond b7 (.int .i64 ((i + 1 : Nat) : Int)) (u34)), (cond b8 (.slice (fromS 3 (some ⟨b, off, none⟩) c (i + 1)) (n - (i + 1)) (c - (i + 1))) (u35)), x36, u37, undef], defers := [] } ∧ CH V7 x (M.take i) (M.take i ++ M.drop (i + 1)) [] b0 b4 b9 false false x27 x31 x36 undef undef V ∧ (b10 = true → b9 = true)) (by kernel_rfl) (by kernel_rfl) ?_ ?_ ?_
     ·exact ⟨false, false, false, false, false, false, false, false, false, false, false, false, u27, u31, u36, rfl, rfl, h0, fun h => (by cases h)⟩
     ·intro i9 listed act9 V hi9 hr hJ
      obtain ⟨b0, b1, b2, b3, b4, b5, b6, b7, b8, b9, b10, b11, x27, x31, x36, rfl, rfl, hF, hA⟩ := hJ
      have hi2 : i9 < 12 := hi9
      have hi3 : i9 = 0 ∨ i9 = 1 ∨ i9 = 2 ∨ i9 = 3 ∨ i9 = 4 ∨ i9 = 5 ∨ i9 = 6 ∨ i9 = 7 ∨ i9 = 8 ∨ i9 = 9 ∨ i9 = 10 ∨ i9 = 11 := by omega
      rcases hi3 with rfl | rfl | rfl | rfl | rfl | rfl | rfl | rfl | rfl | rfl | rfl | rfl
      ·obtain rfl : b0 = false := ready_self hr
       obtain rfl : b4 = false := by cases b4; rfl; exact absurd (hF.c1 rfl) (by decide)
       obtain rfl : b9 = false := by cases b9; rfl; exact absurd (hF.c2 rfl) (by decide)
       refine st_build rfl (by kernel_rfl) (some 27) rfl 26 0 #[] rfl #[] (by kernel_rfl) (.slice (some ⟨V.heap.size, 0, none⟩) 0 0) _ (nil_rw V) ?_
       exact ⟨true, b1, b2, b3, false, b5, b6, b7, b8, false, b10, b11, _, x31, x36, rfl, rfl, hF.nil, hA⟩
      ·obtain rfl : b1 = false := ready_self hr
       refine st_val rfl (by kernel_rfl) (some 28) rfl (.slice (some ⟨b, off, none⟩) n c) V (by kernel_rfl) ?_
       exact ⟨b0, true, b2, b3, b4, b5, b6, b7, b8, b9, b10, b11, x27, x31, x36, rfl, rfl, hF, hA⟩
      ·obtain rfl : b2 = false := ready_self hr
       refine st_val rfl (by kernel_rfl) (some 29) rfl (.int .i64 i) V (by kernel_rfl) ?_
       exact ⟨b0, b1, true, b3, b4, b5, b6, b7, b8, b9, b10, b11, x27, x31, x36, rfl, rfl, hF, hA⟩
      ·obtain rfl : b3 = false := ready_self hr
       obtain rfl : b1 = true := ready_dep hr 1 (by kernel_rfl)
       obtain rfl : b2 = true := ready_dep hr 2 (by kernel_rfl)
       refine st_slice_to rfl (by kernel_rfl) (some 30) rfl 26 (.tmp 28) (.tmp 29) rfl (.slice (some ⟨b, off, none⟩) n c) (.int .i64 (i : Int)) (.slice (some ⟨b, off, none⟩) i c) (by kernel_rfl) (by kernel_rfl) (cut_rw_to (some ⟨b, off, none⟩) n c i V (by omega)) ?_
       exact ⟨b0, true, true, true, b4, b5, b6, b7, b8, b9, b10, b11, x27, x31, x36, rfl, rfl, hF, hA⟩
      ·obtain rfl : b4 = false := ready_self hr
       obtain rfl : b0 = true := ready_dep hr 0 (by kernel_rfl)
       obtain rfl : b3 = true := ready_dep hr 3 (by kernel_rfl)
       obtain rfl : b9 = false := by cases b9; rfl; exact absurd (hF.c2 rfl) (by decide)
       have hO := hF.r0 rfl rfl
       obtain ⟨v, V2, hap, hO2, hb2, hg2, hat2⟩ := hO.app hF.bel.size (some ⟨b, off, none⟩) i c (M.take i) (by rw [← rwcs_take]; exact (HMR.out _ (HR9.out.trans (hF.bel.mono HR9.out.size))).take _) HTL.out (by simp) (by omega)
       refine st_append rfl (by kernel_rfl) (some 31) rfl 26 rfl (.tmp 27) (.tmp 30) 26 rfl x27 (.slice (some ⟨b, off, none⟩) i c) v V2 (by kernel_rfl) (by kernel_rfl) hap ?_
       exact ⟨true, b1, b2, true, true, b5, b6, b7, b8, false, b10, b11, x27, v, x36, rfl, rfl, hF.one (by rw [List.nil_append] at hO2; exact hO2) hb2 hg2 hat2, hA⟩
      ·obtain rfl : b5 = false := ready_self hr
       refine st_val rfl (by kernel_rfl) (some 32) rfl (.slice (some ⟨b, off, none⟩) n c) V (by kernel_rfl) ?_
       exact ⟨b0, b1, b2, b3, b4, true, b6, b7, b8, b9, b10, b11, x27, x31, x36, rfl, rfl, hF, hA⟩
      ·obtain rfl : b6 = false := ready_self hr
       refine st_val rfl (by kernel_rfl) (some 33) rfl (.int .i64 i) V (by kernel_rfl) ?_
       exact ⟨b0, b1, b2, b3, b4, b5, true, b7, b8, b9, b10, b11, x27, x31, x36, rfl, rfl, hF, hA⟩
      ·obtain rfl : b7 = false := ready_self hr
       obtain rfl : b6 = true := ready_dep hr 6 (by kernel_rfl)
       refine st_val rfl (by kernel_rfl) (some 34) rfl (.int .i64 ((i + 1 : Nat) : Int)) V (add_one rfl i (by omega) (by kernel_rfl) V) ?_
       exact ⟨b0, b1, b2, b3, b4, b5, true, true, b8, b9, b10, b11, x27, x31, x36, rfl, rfl, hF, hA⟩
      ·obtain rfl : b8 = false := ready_self hr
       obtain rfl : b5 = true := ready_dep hr 5 (by kernel_rfl)
       obtain rfl : b7 = true := ready_dep hr 7 (by kernel_rfl)
       refine st_slice_from rfl (by kernel_rfl) (some 35) rfl 26 (.tmp 32) (.tmp 34) rfl (.slice (some ⟨b, off, none⟩) n c) (.int .i64 (((i + 1) : Nat) : Int)) (.slice (fromS 3 (some ⟨b, off, none⟩) c (i + 1)) (n - (i + 1)) (c - (i + 1))) (by kernel_rfl) (by kernel_rfl) (cut_rw_from (some ⟨b, off, none⟩) n c ((i + 1)) V (by omega)) ?_
       exact ⟨b0, b1, b2, b3, b4, true, b6, true, true, b9, b10, b11, x27, x31, x36, rfl, rfl, hF, hA⟩
      ·obtain rfl : b9 = false := ready_self hr
       obtain rfl : b4 = true := ready_dep hr 4 (by kernel_rfl)
       obtain rfl : b8 = true := ready_dep hr 8 (by kernel_rfl)
       obtain rfl : b10 = false := by cases b10; rfl; exact absurd (hA rfl) (by decide)
       have hO := hF.r1 rfl rfl
       obtain ⟨v, V2, hap, hO2, hb2, hg2, hat2⟩ := hO.app hF.bel.size (fromS 3 (some ⟨b, off, none⟩) c (i + 1)) (n - (i + 1)) (c - (i + 1)) (M.drop (i + 1)) (by rw [← rwcs_drop]; exact (HMR.out _ (HR9.out.trans (hF.bel.mono HR9.out.size))).from 3 c (i + 1) (by rw [rwcs_len, HN.out]; omega)) HDL.out (by rw [HTL.out]; omega) (by omega)
       refine st_append rfl (by kernel_rfl) (some 36) rfl 26 rfl (.tmp 31) (.tmp 35) 26 rfl x31 (.slice (fromS 3 (some ⟨b, off, none⟩) c (i + 1)) (n - (i + 1)) (c - (i + 1))) v V2 (by kernel_rfl) (by kernel_rfl) hap ?_
       exact ⟨b0, b1, b2, b3, true, b5, b6, b7, true, true, false, b11, x27, x31, v, rfl, rfl, hF.two hO2 hb2 hg2 hat2, fun h => (by cases h)⟩
      ·obtain rfl : b10 = false := ready_self hr
       obtain rfl : b9 = true := ready_dep hr 9 (by kernel_rfl)
       refine st_val rfl (by kernel_rfl) (some 6) rfl (x36) V (by kernel_rfl) ?_
       exact ⟨b0, b1, b2, b3, b4, b5, b6, b7, b8, true, true, b11, x27, x31, x36, rfl, rfl, hF, fun _ => rfl⟩
      ·obtain rfl : b11 = false := ready_self hr
       refine st_val rfl (by kernel_rfl) (some 7) rfl (.bool true) V (by kernel_rfl) ?_
       exact ⟨b0, b1, b2, b3, b4, b5, b6, b7, b8, b9, b10, true, x27, x31, x36, rfl, rfl, hF, hA⟩
     ·intro act9 V hJ
      obtain ⟨b0, b1, b2, b3, b4, b5, b6, b7, b8, b9, b10, b11, x27, x31, x36, he, rfl, hF, hA⟩ := hJ
      have he : (#[true, true, true, true, true, true, true, true, true, true, true, true] : Array Bool) = #[b0, b1, b2, b3, b4, b5, b6, b7, b8, b9, b10, b11] := he
      simp only [Array.mk.injEq, List.cons.injEq, and_true] at he
      obtain ⟨rfl, rfl, rfl, rfl, rfl, rfl, rfl, rfl, rfl, rfl, rfl, rfl⟩ := he
      simp only [cond_true]
      have hO := hF.r2 rfl rfl
      have HE := Lib.hid (HNW3.out V x36 (HR9.out.trans (hF.bel.mono HR9.out.size)) (own_base hO HR9.out.size))
      clear hF h0 hO HMR HNW3
      go_wp2_with fail
      exact HE.out
    ·skip
     go_upto_region 4 with fail
     refine wl <| gz1 (.pointer (some ⟨g5, 0, none⟩)) <| gzl rfl ⟨g5, 0, none⟩ (.string x.1) (hX2.load (i := 0) rfl (by kernel_rfl)) <| gz1 (.string k.1) <| gzw (.bool true) (eql_s rfl x.1 k.1 (by rw [beqB]; exact decide_eq_true he9)) <|
      gz2 (.bool true) (.pointer (some ⟨g5, 1, none⟩)) <| gzl rfl ⟨g5, 1, none⟩ (.int .u64 x.2.1) (hX2.load (i := 1) rfl (by kernel_rfl)) <| gz1 (.int .u64 k.2) <| gzb (eql_w rfl x.2.1 k.2 (decide_eq_false hs9)) <| gz1 (.bool false) <| wn ?_
     simp only [pu]
     have HE : Hid (hasR (M.take (i + 1)) k = false) := Lib.hid (by rw [HAS2.out]; exact decide_eq_false (fun h => hs9 (congrArg Prod.snd h)))
     clear HAS2 HNW2 hX2 HP
     go_upto_region 6 with fail
     refine wl <| gzv (.int .i64 (i + 1 : Nat)) (add_one rfl i (by omega) (by kernel_rfl) _) <| gz1 (.int .i64 (i + 1 : Nat)) <| wn ?_
     simp only [pu]
     go_wp2_with fail
     go_roundg (n - (i + 1))
     case measure => have := HGK.out; omega
     case rel => exact ⟨i + 1, rfl, by omega, by omega, HE, HR2⟩
   ·skip
    go_upto_region 4 with fail
    refine wl <| gz1 (.pointer (some ⟨g5, 0, none⟩)) <| gzl rfl ⟨g5, 0, none⟩ (.string x.1) (hX2.load (i := 0) rfl (by kernel_rfl)) <| gz1 (.string k.1) <| gzw (.bool false) (eql_s rfl x.1 k.1 (by rw [beqB]; exact decide_eq_false he9)) <|
     gz6 (.bool false) undef undef undef undef (.bool false) <| wn ?_
    simp only [pu]
    have HE : Hid (hasR (M.take (i + 1)) k = false) := Lib.hid (by rw [HAS2.out]; exact decide_eq_false (fun h => he9 (congrArg Prod.fst h)))
    clear HAS2 HNW2 hX2 HP
    go_upto_region 6 with fail
    refine wl <| gzv (.int .i64 (i + 1 : Nat)) (add_one rfl i (by omega) (by kernel_rfl) _) <| gz1 (.int .i64 (i + 1 : Nat)) <| wn ?_
    simp only [pu]
    go_wp2_with fail
    go_roundg (n - (i + 1))
    case measure => have := HGK.out; omega
    case rel => exact ⟨i + 1, rfl, by omega, by omega, HE, HR2⟩
  ·skip
   obtain rfl : i = n := by omega
   go_upto_region 2 with fail
   refine wl <| gzb (lss_n rfl (i) (i) dF) <| wn ?_
   simp only [pu]
   have hPI := HP.out
   rw [← HN.out, List.take_length] at hPI
   have HE := Lib.hid (HOLD.out wr HR.out hPI)
   clear HP hPI HOLD HNEW HAS HRG
   go_upto_region 7 with fail
   refine wl <| gz3 (.slice al i c) (.slice al i c) (.bool false) <| wn ?_
   simp only [pu]
   go_wp2_with fail
   exact HE.out
end Go.Proofs.Ytjononjpoeobcaa
