/-
  The statements' made: contract.
-/
import Derived.Test.YtaaeepanelmgnaaMU
import Derived.Test.YtaaeepanelmgnaaMB
namespace Go.Proofs.Ytaaeepanelmgnaa
open Go.RowKit
set_option linter.unusedSimpArgs false
set_option linter.unusedVariables false

theorem results_2c {fn : Func} {tmps : Array Value} {w : World} {p q g h ty : Nat} {v u : Value} (hr : fn.results = #[.cell p ty, .cell q ty]) (h2 : tmps.getD p undef = .pointer (some ⟨g, 0, none⟩)) (hl : (Instr.loadAt ty (.pointer (some ⟨g, 0, none⟩))).run Try.prog w = .ok v w) (h3 : tmps.getD q undef = .pointer (some ⟨h, 0, none⟩)) (hm : (Instr.loadAt ty (.pointer (some ⟨h, 0, none⟩))).run Try.prog w = .ok u w) : (results fn tmps).run Try.prog w = .ok (.tuple #[v, u]) w := by
  unfold results
  rw [hr]
  have h2' : tmps[p]?.getD undef = .pointer (some ⟨g, 0, none⟩) := by simpa using h2
  have h3' : tmps[q]?.getD undef = .pointer (some ⟨h, 0, none⟩) := by simpa using h3
  have hl' := hl
  have hm' := hm
  simp only [Instr.loadAt, Instr.sureAddr, Sem.run_bind, Sem.run_pure, Result.andThen_ok] at hl' hm'
  simp [h2', h3', asAddr, hl', hm', Result.andThen]
/-- 'append' of a slice of transfers. -/
theorem grow_tfs {w : World} {B : Nat} {v : Value} {A M : List Tf} (h : RowT w B v A) (hB : B ≤ w.heap.size) (pa : Option Addr) (cp : Nat) (hP : Cs w pa (tfc M)) (hl : (A.length + M.length) * 24 ≤ 140737488355328) :
    ∃ a c V2, (Builtin.append_ #[27, 27] 27 #[v, .slice pa M.length cp]).run Try.prog w = .ok (.slice a (A ++ M).length c) V2 ∧ RowT V2 B (.slice a (A ++ M).length c) (A ++ M) ∧ Below B w V2 := by
  obtain ⟨i0, hi, hz0, hz1, hz2⟩ := info_parts infoT
  have fin : ∀ v2 V2, (Builtin.append_ #[27, 27] 27 #[v, .slice pa M.length cp]).run Try.prog w = .ok v2 V2 → RowT V2 B v2 (A ++ M) → Below B w V2 → ∃ a c V2, (Builtin.append_ #[27, 27] 27 #[v, .slice pa M.length cp]).run Try.prog w = .ok (.slice a (A ++ M).length c) V2 ∧ RowT V2 B (.slice a (A ++ M).length c) (A ++ M) ∧ Below B w V2 := fun v2 V2 hr ho hb => by
    obtain ⟨a, c, rfl, -, -⟩ := ho.cs
    exact (⟨a, c, V2, hr, ho, hb⟩ : ∃ a c V2, (Builtin.append_ #[27, 27] 27 #[v, .slice pa M.length cp]).run Try.prog w = .ok (.slice a (A ++ M).length c) V2 ∧ RowT V2 B (.slice a (A ++ M).length c) (A ++ M) ∧ Below B w V2)
  cases pa with
  | none =>
    have hM : M = [] := by
      cases M with
      | nil => rfl
      | cons y r =>
        obtain ⟨b, off, e, -⟩ := hP 0 (.string y.1) rfl
        cases e
    subst hM
    refine fin v w ?_ (by rw [List.append_nil]; exact h) (Below.refl _ _)
    rcases h.2 with ⟨rfl, h0⟩ | ⟨g, cap, cur, rfl, _, _, hnc, _⟩
    · simp [Builtin.append_, run_underlying Try.underlying27, sizeOf, typeInfo, hi, Builtin.lenOf, Builtin.firstCells]
    · simp [Builtin.append_, run_underlying Try.underlying27, sizeOf, typeInfo, hi, Builtin.lenOf, Builtin.firstCells, hnc, storeCells]
  | some x =>
    have hx : ∀ j u, (tfc M)[j]? = some u → w.cell? (x.add j) = some u := fun j u hu => by
      obtain ⟨b, off, e, -, hc⟩ := hP j u hu
      cases e
      rw [Addr.add_mid]
      exact hc
    obtain ⟨v2, V2, hr, hO2, hg, -, -⟩ := run_append_own_at (P := Try.prog) w B 27 27 58 i0 _ 2 24 Try.underlying27 hi hz0 hz1 hz2 (by kernel_rfl) (by omega) v A.length (tfc A) h x M.length cp (tfc M) (tfc_len M) hx (tfc_one M) (by unfold maxLen; omega) (by omega) hB
    refine fin v2 V2 hr (by unfold RowT; rw [tfc_app, List.length_append]; exact hO2) ((Below.refl _ w).grown hg hB fun j hj => (World.ownsRow.lt h j hj).1)
theorem nil_tf (w : World) : (Instr.buildSlice 27 0 #[]).run Try.prog w = .ok (.slice (some ⟨w.heap.size, 0, none⟩) 0 0) (w.alloc (.cells #[] 58)) := build_nil Try.underlying27 infoT w
theorem nil_row (w : World) : RowT (w.alloc (.cells #[] 58)) w.heap.size (.slice (some ⟨w.heap.size, 0, none⟩) 0 0) [] := own_nil w 58 2
theorem GQ.wt {x : Txd} (h : GQ x) (hn : x.tr.length ≤ 3) : wtX x ≤ 420 := by
  have a := trW_le x.tr 20 (fun y hy => (h.tr y hy).1.2)
  have b := h.snd.2
  have c := h.memo.2
  have d : x.tr.length * (60 + 20) ≤ 3 * 80 := Nat.mul_le_mul_right _ hn
  unfold wtX
  omega
/-- The memory while the two are made. -/
structure Md (w : World) (gs g3 g4 g5 g7 g8 : Nat) (ak : Option Addr) (ck : Nat) (L : List Int) (t : Txd) (a : Option Addr) (c : Nat) (xa : Txd) (a1 : Option Addr) (c1 B1 : Nat) (xb : Txd) (a2 : Option Addr) (c2 : Nat) (V : World) : Prop where
  bel : Below w.heap.size w V
  ns : NS V gs ak ck L 100
  b3 : Bx V g3 (txA t a c) 29
  b4 : Bx V g4 (txA zX none 0) 29
  b5 : Bx V g5 (txA zX none 0) 29
  b7 : Bx V g7 (txA xa a1 c1) 29
  b8 : Bx V g8 (txA xb a2 c2) 29
  r1 : RowT V B1 (.slice a1 xa.tr.length c1) xa.tr
theorem md_drew {w : World} {gs g3 g4 g5 g7 g8 : Nat} {ak : Option Addr} {ck : Nat} {L : List Int} {t : Txd} {a : Option Addr} {c : Nat} {xa : Txd} {a1 : Option Addr} {c1 B1 : Nat} {xb : Txd} {a2 : Option Addr} {c2 : Nat} {V : World} (h : Md w gs g3 g4 g5 g7 g8 ak ck L t a c xa a1 c1 B1 xb a2 c2 V) : Md w gs g3 g4 g5 g7 g8 ak ck L t a c xa a1 c1 B1 xb a2 c2 V.drew := ⟨h.bel.drew, h.ns, h.b3, h.b4, h.b5, h.b7, h.b8, h.r1⟩
structure Mly (w : World) (gs g3 g4 g5 g7 g8 B1 W : Nat) : Prop where
  hs : w.heap.size ≤ gs
  h3 : w.heap.size ≤ g3
  h4 : w.heap.size ≤ g4
  h5 : w.heap.size ≤ g5
  h7 : w.heap.size ≤ g7
  h8 : w.heap.size ≤ g8
  ns3 : gs ≠ g3
  ns4 : gs ≠ g4
  ns5 : gs ≠ g5
  ns7 : gs ≠ g7
  ns8 : gs ≠ g8
  n38 : g3 ≠ g8
  n48 : g4 ≠ g8
  n58 : g5 ≠ g8
  n78 : g7 ≠ g8
  n34 : g3 ≠ g4
  n35 : g3 ≠ g5
  n45 : g4 ≠ g5
  n47 : g4 ≠ g7
  n57 : g5 ≠ g7
  sB : gs < B1
  l3 : g3 < W
  l4 : g4 < W
  l5 : g5 < W
  l7 : g7 < W
  l8 : g8 < W
  ls : gs < W
section
variable {w : World} {gs g3 g4 g5 g7 g8 : Nat} {ak : Option Addr} {ck : Nat} {L : List Int} {t : Txd} {a : Option Addr} {c : Nat} {xa : Txd} {a1 : Option Addr} {c1 B1 W : Nat} {xb : Txd} {a2 : Option Addr} {c2 : Nat} {V : World}
theorem Md.below (h : Md w gs g3 g4 g5 g7 g8 ak ck L t a c xa a1 c1 B1 xb a2 c2 V) {V2 : World} (hb : Below V.heap.size V V2) : Md w gs g3 g4 g5 g7 g8 ak ck L t a c xa a1 c1 B1 xb a2 c2 V2 :=
  ⟨h.bel.trans (hb.mono h.bel.size), h.ns.below hb, h.b3.below h.b3.lt hb, h.b4.below h.b4.lt hb, h.b5.below h.b5.lt hb, h.b7.below h.b7.lt hb, h.b8.below h.b8.lt hb, h.r1.below hb⟩
theorem Md.call (h : Md w gs g3 g4 g5 g7 g8 ak ck L t a c xa a1 c1 B1 xb a2 c2 V) (ly : Mly w gs g3 g4 g5 g7 g8 B1 W) {V2 : World} (hns : NS V2 gs ak ck L 100) (hb : But gs V V2) : Md w gs g3 g4 g5 g7 g8 ak ck L t a c xa a1 c1 B1 xb a2 c2 V2 :=
  ⟨h.bel.trans (hb.1.mono ly.hs), hns, h.b3.but hb ly.ns3.symm, h.b4.but hb ly.ns4.symm, h.b5.but hb ly.ns5.symm, h.b7.but hb ly.ns7.symm, h.b8.but hb ly.ns8.symm, h.r1.but hb ly.sB⟩
theorem ns_off {q k : Nat} (h : NS V gs ak ck L k) {V2 : World} (hb : But q V V2) (hq : gs ≠ q) (ha : L ≠ [] → ∀ x, ak = some x → x.block < q) : NS V2 gs ak ck L k := by
  obtain ⟨N, h1, h2, h3, h4⟩ := h
  exact ⟨N, h1, h2.but hb hq, cs_but0 h3 hb (fun h5 x hx => by have := ha h5 x hx; omega), h4⟩
theorem cs_off {w w' : World} {q : Nat} {a : Option Addr} {cs : List Value} (h : Cs w a cs) (hb : But q w w') (hn : cs ≠ [] → ∀ x, a = some x → x.block ≠ q) : Cs w' a cs := fun j v hj => by
  obtain ⟨b, off, rfl, hlt, hc⟩ := h j v hj
  have hne : cs ≠ [] := by intro e; rw [e] at hj; simp at hj
  exact ⟨b, off, rfl, Nat.lt_of_lt_of_le hlt hb.1.size, (World.cell?_of_block (a := ⟨b, off + j, none⟩) (hb.2 b hlt (hn hne _ rfl))).trans hc⟩
theorem row_ge {V : World} {B n c : Nat} {a : Option Addr} {M : List Tf} (h : RowT V B (.slice a n c) M) : ∀ x, a = some x → B ≤ x.block := by
  unfold RowT at h
  intro x hx
  rcases h.2 with ⟨e, -⟩ | ⟨gg, cap, cur, e, h1, -⟩
  · simp only [Value.slice.injEq] at e
    rw [e.1] at hx
    cases hx
  · simp only [Value.slice.injEq] at e
    rw [e.1] at hx
    cases hx
    exact h1
theorem row_far {V V2 : World} {B B9 : Nat} {v : Value} {M : List Tf} (h : RowT V B v M) (hl : ∀ q, v.ownBlock = some q → q < B9) (hb : Below B9 V V2) : RowT V2 B v M := by
  unfold RowT at *
  refine ⟨h.1, ?_⟩
  rcases h.2 with h0 | ⟨gg, cap, cur, ev, h1, h2, h3⟩
  · exact .inl h0
  · exact .inr ⟨gg, cap, cur, ev, h1, (hb.block gg (hl gg (by rw [ev]; rfl))).trans h2, h3⟩
theorem Md.far (h : Md w gs g3 g4 g5 g7 g8 ak ck L t a c xa a1 c1 B1 xb a2 c2 V) (ly : Mly w gs g3 g4 g5 g7 g8 B1 W) (hW : w.heap.size ≤ W) (hk : L ≠ [] → ∀ x, ak = some x → x.block < w.heap.size) (hl : ∀ q, (Value.slice a1 xa.tr.length c1).ownBlock = some q → q < W) {V2 : World} (hb : Below W V V2) : Md w gs g3 g4 g5 g7 g8 ak ck L t a c xa a1 c1 B1 xb a2 c2 V2 :=
  ⟨h.bel.trans (hb.mono hW), (by
    obtain ⟨N, h1, h2, h3, h4⟩ := h.ns
    exact ⟨N, h1, h2.below ly.ls hb, cs_same h3 hb.size (fun hn x hx => hb.block _ (Nat.lt_of_lt_of_le (hk (fun e => hn (by rw [e]; rfl)) x hx) hW)), h4⟩), h.b3.below ly.l3 hb, h.b4.below ly.l4 hb, h.b5.below ly.l5 hb, h.b7.below ly.l7 hb, h.b8.below ly.l8 hb, row_far h.r1 hl hb⟩
theorem Md.set (h : Md w gs g3 g4 g5 g7 g8 ak ck L t a c xa a1 c1 B1 xb a2 c2 V) (ly : Mly w gs g3 g4 g5 g7 g8 B1 W) (hk : L ≠ [] → ∀ x, ak = some x → x.block < w.heap.size) (hl : ∀ q, (Value.slice a1 xa.tr.length c1).ownBlock = some q → q < g8) {V2 : World} {xb' : Txd} {a2' : Option Addr} {c2' : Nat} (hb : But g8 V V2) (hx : Bx V2 g8 (txA xb' a2' c2') 29) : Md w gs g3 g4 g5 g7 g8 ak ck L t a c xa a1 c1 B1 xb' a2' c2' V2 :=
  ⟨h.bel.trans (hb.1.mono ly.h8), ns_off h.ns hb ly.ns8 (fun hn x hx => Nat.lt_of_lt_of_le (hk hn x hx) ly.h8), h.b3.but hb ly.n38, h.b4.but hb ly.n48, h.b5.but hb ly.n58, h.b7.but hb ly.n78, hx, rowT_off h.r1 hb (fun e => absurd (hl _ e) (Nat.lt_irrefl _))⟩
end
/-- What region 20 keeps. -/
structure K20 (w : World) (g4 g5 g7 g8 : Nat) (xa : Txd) (a1 : Option Addr) (c1 : Nat) (xb : Txd) (a2 : Option Addr) (c2 : Nat) (b2 b3 : Bool) (V : World) : Prop where
  bel : Below w.heap.size w V
  b4 : Bx V g4 (cond b2 (txA xa a1 c1) (txA zX none 0)) 29
  b5 : Bx V g5 (cond b3 (txA xb a2 c2) (txA zX none 0)) 29
  b7 : Bx V g7 (txA xa a1 c1) 29
  b8 : Bx V g8 (txA xb a2 c2) 29
  ca : Cs V a1 (tfc xa.tr)
  cb : Cs V a2 (tfc xb.tr)
def Nea (g4 g5 : Nat) (x : Txd) (a : Option Addr) : Prop := tfc x.tr ≠ [] → ∀ y, a = some y → y.block ≠ g4 ∧ y.block ≠ g5
section
variable {w : World} {gs g3 g4 g5 g7 g8 : Nat} {xa : Txd} {a1 : Option Addr} {c1 B1 W : Nat} {xb : Txd} {a2 : Option Addr} {c2 : Nat} {V : World} {b2 b3 : Bool}
theorem K20.s4 (h : K20 w g4 g5 g7 g8 xa a1 c1 xb a2 c2 false b3 V) (ly : Mly w gs g3 g4 g5 g7 g8 B1 W) (ha : Nea g4 g5 xa a1) (hb : Nea g4 g5 xb a2) : (Instr.storeAt 29 (.pointer (some ⟨g4, 0, none⟩)) (.agg (txA xa a1 c1))).run Try.prog V = .ok () (V.setRow g4 (txA xa a1 c1)) ∧ K20 w g4 g5 g7 g8 xa a1 c1 xb a2 c2 true b3 (V.setRow g4 (txA xa a1 c1)) := by
  obtain ⟨hst, hZ⟩ := store_txz (y := xa) (a' := a1) (c' := c1) (show Bx V g4 (txA zX none 0) 29 from h.b4)
  have hbt : But g4 V (V.setRow g4 (txA xa a1 c1)) := But.setRow V _
  exact ⟨hst, h.bel.trans (hbt.1.mono ly.h4), hZ, h.b5.but hbt ly.n45.symm, h.b7.but hbt ly.n47.symm, h.b8.but hbt ly.n48.symm, cs_off h.ca hbt (fun hn y hy => (ha hn y hy).1), cs_off h.cb hbt (fun hn y hy => (hb hn y hy).1)⟩
theorem K20.s5 (h : K20 w g4 g5 g7 g8 xa a1 c1 xb a2 c2 b2 false V) (ly : Mly w gs g3 g4 g5 g7 g8 B1 W) (ha : Nea g4 g5 xa a1) (hb : Nea g4 g5 xb a2) : (Instr.storeAt 29 (.pointer (some ⟨g5, 0, none⟩)) (.agg (txA xb a2 c2))).run Try.prog V = .ok () (V.setRow g5 (txA xb a2 c2)) ∧ K20 w g4 g5 g7 g8 xa a1 c1 xb a2 c2 b2 true (V.setRow g5 (txA xb a2 c2)) := by
  obtain ⟨hst, hZ⟩ := store_txz (y := xb) (a' := a2) (c' := c2) (show Bx V g5 (txA zX none 0) 29 from h.b5)
  have hbt : But g5 V (V.setRow g5 (txA xb a2 c2)) := But.setRow V _
  exact ⟨hst, h.bel.trans (hbt.1.mono ly.h5), h.b4.but hbt ly.n45, hZ, h.b7.but hbt ly.n57.symm, h.b8.but hbt ly.n58.symm, cs_off h.ca hbt (fun hn y hy => (ha hn y hy).2), cs_off h.cb hbt (fun hn y hy => (hb hn y hy).2)⟩
end
/-- What region 17 keeps. -/
structure K17 (w : World) (gs g3 g4 g5 g7 g8 : Nat) (ak : Option Addr) (ck : Nat) (L : List Int) (t : Txd) (a : Option Addr) (c : Nat) (xa : Txd) (a1 : Option Addr) (c1 B1 B9 : Nat) (b0 b3 b6 b8 : Bool) (x50 x53 x56 : Value) (V : World) : Prop where
  o3 : b3 = true → b0 = true
  o6 : b6 = true → b3 = true
  o8 : b8 = true → b6 = true
  m0 : b8 = false → Md w gs g3 g4 g5 g7 g8 ak ck L t a c xa a1 c1 B1 xa a1 c1 V
  m1 : b8 = true → ∃ a2 c2, RowT V B9 (.slice a2 (xa.tr ++ t.tr).length c2) (xa.tr ++ t.tr) ∧ Md w gs g3 g4 g5 g7 g8 ak ck L t a c xa a1 c1 B1 ⟨xa.snd, xa.sq, xa.gas, xa.fee, xa.memo, xa.tr ++ t.tr⟩ a2 c2 V
  r50 : b0 = true → b3 = false → RowT V B9 x50 []
  r53 : b3 = true → b6 = false → RowT V B9 x53 xa.tr
  r56 : b6 = true → b8 = false → ∃ a2 c2, x56 = .slice a2 (xa.tr ++ t.tr).length c2 ∧ RowT V B9 x56 (xa.tr ++ t.tr)
  sz : B9 ≤ V.heap.size
section
variable {w : World} {gs g3 g4 g5 g7 g8 : Nat} {ak : Option Addr} {ck : Nat} {L : List Int} {t : Txd} {a : Option Addr} {c : Nat} {xa : Txd} {a1 : Option Addr} {c1 B1 B9 : Nat} {b0 b3 b6 b8 : Bool} {x50 x53 x56 : Value} {V : World}
theorem K17.s0 (h : K17 w gs g3 g4 g5 g7 g8 ak ck L t a c xa a1 c1 B1 B9 false b3 b6 b8 x50 x53 x56 V) : K17 w gs g3 g4 g5 g7 g8 ak ck L t a c xa a1 c1 B1 B9 true b3 b6 b8 (.slice (some ⟨V.heap.size, 0, none⟩) 0 0) x53 x56 (V.alloc (.cells #[] 58)) := by
  obtain rfl := ff h.o3 rfl
  obtain rfl := ff h.o6 rfl
  obtain rfl := ff h.o8 rfl
  have hb : Below V.heap.size V (V.alloc (.cells #[] 58)) := (Below.refl _ V).alloc (Nat.le_refl _) _
  exact ⟨fun _ => rfl, (fun e => nomatch e), (fun e => nomatch e), fun _ => (h.m0 rfl).below hb, (fun e => nomatch e), fun _ _ => (nil_row V).base h.sz, (fun e => nomatch e), (fun e => nomatch e), Nat.le_trans h.sz hb.size⟩
theorem K17.s3 (h : K17 w gs g3 g4 g5 g7 g8 ak ck L t a c xa a1 c1 B1 B9 true false b6 b8 x50 x53 x56 V) (ly : Mly w gs g3 g4 g5 g7 g8 B1 B9) (hW : w.heap.size ≤ B9) (hk : L ≠ [] → ∀ x, ak = some x → x.block < w.heap.size) (hl : ∀ q, (Value.slice a1 xa.tr.length c1).ownBlock = some q → q < B9) (hn : xa.tr.length ≤ 3) :
    ∃ v V2, (Builtin.append_ #[27, 27] 27 #[x50, .slice a1 xa.tr.length c1]).run Try.prog V = .ok v V2 ∧ K17 w gs g3 g4 g5 g7 g8 ak ck L t a c xa a1 c1 B1 B9 true true b6 b8 x50 v x56 V2 := by
  obtain rfl := ff h.o6 rfl
  obtain rfl := ff h.o8 rfl
  obtain ⟨ar, cr, er, hcr, -⟩ := (h.m0 rfl).r1.cs
  simp only [Value.slice.injEq, true_and] at er
  obtain ⟨rfl, rfl⟩ := er
  obtain ⟨a2, c2, V2, hr, hrow, hb⟩ := grow_tfs (h.r50 rfl rfl) h.sz a1 c1 hcr (by simp only [List.length_nil]; omega)
  exact ⟨_, V2, hr, ⟨fun _ => rfl, (fun e => nomatch e), (fun e => nomatch e), fun _ => (h.m0 rfl).far ly hW hk hl hb, (fun e => nomatch e), (fun _ e => nomatch e), fun _ _ => hrow, (fun e => nomatch e), Nat.le_trans h.sz hb.size⟩⟩
theorem K17.s6 (h : K17 w gs g3 g4 g5 g7 g8 ak ck L t a c xa a1 c1 B1 B9 b0 true false b8 x50 x53 x56 V) (ly : Mly w gs g3 g4 g5 g7 g8 B1 B9) (hW : w.heap.size ≤ B9) (hk : L ≠ [] → ∀ x, ak = some x → x.block < w.heap.size) (hl : ∀ q, (Value.slice a1 xa.tr.length c1).ownBlock = some q → q < B9) (hn : xa.tr.length ≤ 3) (hct : Cs w a (tfc t.tr)) (hz : t.tr.length * 24 ≤ 140737488351232) :
    ∃ v V2, (Builtin.append_ #[27, 27] 27 #[x53, .slice a t.tr.length c]).run Try.prog V = .ok v V2 ∧ K17 w gs g3 g4 g5 g7 g8 ak ck L t a c xa a1 c1 B1 B9 b0 true true b8 x50 x53 v V2 := by
  obtain rfl := ff h.o8 rfl
  obtain rfl := h.o3 rfl
  obtain ⟨a2, c2, V2, hr, hrow, hb⟩ := grow_tfs (h.r53 rfl rfl) h.sz a c (hct.below (h.m0 rfl).bel) (by omega)
  exact ⟨_, V2, hr, ⟨fun _ => rfl, fun _ => rfl, (fun e => nomatch e), fun _ => (h.m0 rfl).far ly hW hk hl hb, (fun e => nomatch e), (fun _ e => nomatch e), (fun _ e => nomatch e), fun _ _ => ⟨_, _, rfl, hrow⟩, Nat.le_trans h.sz hb.size⟩⟩
theorem K17.s8 (h : K17 w gs g3 g4 g5 g7 g8 ak ck L t a c xa a1 c1 B1 B9 b0 b3 true false x50 x53 x56 V) (ly : Mly w gs g3 g4 g5 g7 g8 B1 B9) (hk : L ≠ [] → ∀ x, ak = some x → x.block < w.heap.size) (hl : ∀ q, (Value.slice a1 xa.tr.length c1).ownBlock = some q → q < g8) :
    ∃ a2 c2 V2, x56 = .slice a2 (xa.tr ++ t.tr).length c2 ∧ (Instr.storeAt 27 (.pointer (some ⟨g8, 5, none⟩)) (.slice a2 (xa.tr ++ t.tr).length c2)).run Try.prog V = .ok () V2 ∧ K17 w gs g3 g4 g5 g7 g8 ak ck L t a c xa a1 c1 B1 B9 b0 b3 true true x50 x53 (.slice a2 (xa.tr ++ t.tr).length c2) V2 := by
  obtain rfl := h.o6 rfl
  obtain rfl := h.o3 rfl
  obtain ⟨a2, c2, rfl, hrow⟩ := h.r56 rfl rfl
  have hm := h.m0 rfl
  obtain ⟨V2, hst, hX, -, hbt⟩ := st_cell (i := 5) (ty := 27) (v := .slice a2 (xa.tr ++ t.tr).length c2) (cs' := txA ⟨xa.snd, xa.sq, xa.gas, xa.fee, xa.memo, xa.tr ++ t.tr⟩ a2 c2) (w0 := V) (B := g8) hm.b8 (Below.refl _ _) (Nat.le_refl _) (by show 5 < 6; decide) rfl (by kernel_rfl) rfl
  exact ⟨a2, c2, V2, rfl, hst, ⟨fun _ => rfl, fun _ => rfl, fun _ => rfl, (fun e => nomatch e), fun _ => ⟨a2, c2, hrow.but hbt ly.l8, hm.set ly hk hl hbt hX⟩, (fun _ e => nomatch e), (fun _ e => nomatch e), (fun _ e => nomatch e), Nat.le_trans h.sz hbt.1.size⟩⟩
end
def MadeO (w : World) (t : Txd) (e : Ending) (w' : World) : Prop := ∃ xa xb a1 c1 a2 c2, e = .returned (.tuple #[.agg (txA xa a1 c1), .agg (txA xb a2 c2)]) ∧ Cs w' a1 (tfc xa.tr) ∧ Cs w' a2 (tfc xb.tr) ∧ GQ xa ∧ 1 ≤ xa.tr.length ∧ xa.tr.length ≤ 3 ∧ TxB xb ∧ wtX xb ≤ 1000 + wtX t ∧ Below w.heap.size w w'
set_option maxRecDepth 100000 in
set_option maxHeartbeats 8000000 in
theorem made_any (ak : Option Addr) (ck : Nat) (L : List Int) (t : Txd) (a : Option Addr) (c : Nat) (w : World) (hk : Cs w ak (icells L)) (hl : L.length ≤ 100000) (hR : Cs w a (tfc t.tr)) (hb : TxB t) (hz : t.tr.length * 24 ≤ 140737488351232) :
    Calls Try.prog 16 #[.slice ak L.length ck, .agg (txA t a c)] w (MadeO w t) := by
  have HL := Lib.hid hl
  have HTB := Lib.hid hb
  have HTZ := Lib.hid hz
  have HKB := Lib.hid (fun (hn : L ≠ []) x (hx : ak = some x) => (by
    obtain ⟨b, off, e, hb, -⟩ := int_at hk (k := 0) (List.length_pos_iff.2 hn)
    rw [hx] at e
    cases e
    exact hb : x.block < w.heap.size))
  have HCT := Lib.hid hR
  have hb1 : Below w.heap.size w (w.alloc (.cells (txA t a c) 29)) := (Below.refl _ w).alloc (Nat.le_refl _) _
  have hX1 : Bx (w.alloc (.cells (txA t a c) 29)) w.heap.size (txA t a c) 29 := heap_alloc_last w _
  have hsz1 : (w.alloc (.cells (txA t a c) 29)).heap.size = w.heap.size + 1 := by simp
  clear hl hb hz hR
  go_enter Try.func16, Try.ntmps16
  go_upto_region 1 with fail
  change Code.wp _ _ _ _ (((w.alloc (.cells (txA t a c) 29)).alloc (.cells (txA zX none 0) 29)).alloc (.cells (txA zX none 0) 29))
  generalize w.alloc (.cells (txA t a c) 29) = W1 at *
  have hb2 : Below w.heap.size w (W1.alloc (.cells (txA zX none 0) 29)) := hb1.alloc hb1.size _
  have hX2 : Bx (W1.alloc (.cells (txA zX none 0) 29)) w.heap.size (txA t a c) 29 := hX1.below hX1.lt ((Below.refl _ W1).alloc (Nat.le_refl _) _)
  have hY2 : Bx (W1.alloc (.cells (txA zX none 0) 29)) W1.heap.size (txA zX none 0) 29 := heap_alloc_last W1 _
  have hsz2 : (W1.alloc (.cells (txA zX none 0) 29)).heap.size = W1.heap.size + 1 := by simp
  generalize W1.alloc (.cells (txA zX none 0) 29) = W2 at *
  have hb3 : Below w.heap.size w (W2.alloc (.cells (txA zX none 0) 29)) := hb2.alloc hb2.size _
  have hX3 : Bx (W2.alloc (.cells (txA zX none 0) 29)) w.heap.size (txA t a c) 29 := hX2.below hX2.lt ((Below.refl _ W2).alloc (Nat.le_refl _) _)
  have hY3 : Bx (W2.alloc (.cells (txA zX none 0) 29)) W1.heap.size (txA zX none 0) 29 := hY2.below hY2.lt ((Below.refl _ W2).alloc (Nat.le_refl _) _)
  have hZ3 : Bx (W2.alloc (.cells (txA zX none 0) 29)) W2.heap.size (txA zX none 0) 29 := heap_alloc_last W2 _
  have hsz3 : (W2.alloc (.cells (txA zX none 0) 29)).heap.size = W2.heap.size + 1 := by simp
  generalize W2.alloc (.cells (txA zX none 0) 29) = W3 at *
  have CFR := mk_from ak L.length ck W3
  rw [hsz2, hsz1] at hZ3 hsz3
  rw [hsz1] at hY3 hsz2
  obtain ⟨g3, hg3⟩ : ∃ g3, w.heap.size = g3 := ⟨_, rfl⟩
  obtain ⟨g4, hg4⟩ : ∃ g4, w.heap.size + 1 = g4 := ⟨_, rfl⟩
  obtain ⟨g5, hg5⟩ : ∃ g5, w.heap.size + 1 + 1 = g5 := ⟨_, rfl⟩
  obtain ⟨gs, hgs⟩ : ∃ gs, W3.heap.size = gs := ⟨_, rfl⟩
  have HG1 : Hid (g3 = w.heap.size ∧ g4 = w.heap.size + 1 ∧ g5 = w.heap.size + 2 ∧ gs = w.heap.size + 3) := Lib.hid ⟨by omega, by omega, by omega, by omega⟩
  have hkW := hk.below hb3
  rw [hg5] at hZ3
  rw [hg4] at hY3
  rw [hg3] at hX3
  rw [hgs] at CFR
  rw [hg5, hg4, hg3]
  have hcs4 : Below W3.heap.size W3 (W3.alloc (.cells #[.slice ak L.length ck, .int .i64 0] 83)) := (Below.refl _ W3).alloc (Nat.le_refl _) _
  have hns4 : NS (W3.alloc (.cells #[.slice ak L.length ck, .int .i64 0] 83)) gs ak ck L 0 := ⟨0, Nat.le_refl _, by rw [← hgs]; exact heap_alloc_last W3 _, hkW.below hcs4, fun hn x hx => by have := HKB.out hn x hx; omega⟩
  generalize W3.alloc (.cells #[.slice ak L.length ck, .int .i64 0] 83) = W4 at *
  have hb4 := hb3.trans (hcs4.mono hb3.size)
  have hX4 := hX3.below hX3.lt hcs4
  have hY4 := hY3.below hY3.lt hcs4
  have hZ4 := hZ3.below hZ3.lt hcs4
  have CAC := mk_accounts hns4 HL.out (by decide)
  clear hb1 hX1 hsz1 hb2 hX2 hY2 hsz2 hX3 hY3 hZ3 hsz3 hb3 hkW hcs4 hk hg3 hg4 hg5 hgs
  apply wp_region_lit
  refine gw_val (by kernel_rfl) (some 9) rfl (.slice ak L.length ck) (by kernel_rfl) ?_
  simp only [pu1, pu2, pu3, pu4]
  refine gw_call (by kernel_rfl) (some 10) rfl 31 #[.slice ak L.length ck] (.pointer (some ⟨gs, 0, none⟩)) (fun w' => w' = W4) (by kernel_rfl) CFR (fun V9 hV9 => ?_)
  subst hV9
  simp only [pu1, pu2, pu3, pu4]
  refine gw_val (by kernel_rfl) (some 6) rfl (.pointer (some ⟨gs, 0, none⟩)) (by kernel_rfl) ?_
  simp only [pu1, pu2, pu3, pu4]
  apply wpList_nil
  have hgl := hns4.lt
  have HAK4 := Lib.hid (fun h1 x hx => hns4.ab h1 x hx)
  clear CFR
  go_upto_region 2 with fail
  apply wp_region_lit
  refine gw_val (by kernel_rfl) (some 11) rfl (.pointer (some ⟨gs, 0, none⟩)) (by kernel_rfl) ?_
  simp only [pu1, pu2, pu3, pu4]
  refine gw_val (by kernel_rfl) (some 12) rfl (.pointer (some ⟨gs, 0, none⟩)) (by kernel_rfl) ?_
  simp only [pu1, pu2, pu3, pu4]
  refine gw_callE (by kernel_rfl) (some 13) rfl 33 #[.pointer (some ⟨gs, 0, none⟩)] (fun v w' => ∃ ra rc A, v = .slice ra (List.length A) rc ∧ RowA w' V9.heap.size (.slice ra A.length rc) A ∧ (∀ x, x ∈ A → AcQ x) ∧ A.length ≤ 4 ∧ NS w' gs ak ck L (0 + 13) ∧ But gs V9 w') (by kernel_rfl) (CAC.mono fun e w' q => by obtain ⟨ra, rc, A, h1, h2⟩ := q; exact ⟨_, h1, ra, rc, A, rfl, h2⟩) (fun vv V5 hq => ?_)
  obtain ⟨ra, rc, A, rfl, hrow, hAQ, hA4, hns5, hbut5⟩ := hq
  obtain ⟨ra2, rc2, er, hrcs, -⟩ := hrow.cs
  simp only [Value.slice.injEq, true_and] at er
  obtain ⟨rfl, rfl⟩ := er
  have hrg : acc A ≠ [] → ∀ x, ra = some x → x.block ≠ gs := fun hn x hx e => by
    have hA : 0 < A.length := by rcases A with _ | ⟨y, r⟩; exact absurd rfl hn; simp
    unfold RowA at hrow
    obtain ⟨gg, e2, hge, -⟩ := own_at hrow hA
    rw [hx] at e2
    cases e2
    have : gg = gs := e
    omega
  have CTX := mk_tx (rc := rc) (co := 0) (p := 1) hns5 HL.out (by decide) hrcs hrg hAQ hA4
  simp only [pu1, pu2, pu3, pu4]
  refine gw_val (by kernel_rfl) (some 14) rfl (.agg #[.slice ra (List.length A) rc, .int .u64 0]) (by kernel_rfl) ?_
  simp only [pu1, pu2, pu3, pu4]
  refine gw_callE (by kernel_rfl) (some 15) rfl 32 #[.pointer (some ⟨gs, 0, none⟩), .agg #[.slice ra (List.length A) rc, .int .u64 0], .int .u64 1] (fun v w' => ∃ x a2 c2, v = .agg (txA x a2 c2) ∧ RowT w' V5.heap.size (.slice a2 x.tr.length c2) x.tr ∧ GQ x ∧ 1 ≤ x.tr.length ∧ x.tr.length ≤ 3 ∧ NS w' gs ak ck L (0 + 13 + 40) ∧ But gs V5 w') (by kernel_rfl) (CTX.mono fun e w' q => by obtain ⟨x, a2, c2, h1, h2⟩ := q; exact ⟨_, h1, x, a2, c2, rfl, h2⟩) (fun vv V6 hq => ?_)
  obtain ⟨xa, a1, c1, rfl, hrt, hgq, hm1, hm3, hns6, hbut6⟩ := hq
  obtain ⟨V7, hst7, hb7, hbx7⟩ := new_txv V6 xa a1 c1
  simp only [pu1, pu2, pu3, pu4]
  refine run_to rfl (some 7) rfl (.pointer (some ⟨V6.heap.size, 0, none⟩)) (V6.alloc (.cells (txA zX none 0) 29)) (by kernel_rfl) ?_
  simp only [pu1, pu2, pu3, pu4]
  refine gw_store (by kernel_rfl) rfl 29 (.tmp 7) (.tmp 15) rfl (.pointer (some ⟨V6.heap.size, 0, none⟩)) (.agg (txA xa a1 c1)) (by kernel_rfl) (by kernel_rfl) (V7) (hst7) ?_
  apply wpList_nil
  obtain ⟨g7, hg7⟩ : ∃ g7, V6.heap.size = g7 := ⟨_, rfl⟩
  obtain ⟨B1, hB1⟩ : ∃ B1, V5.heap.size = B1 := ⟨_, rfl⟩
  have hbt := hbut5.trans hbut6
  have s1 := hbut5.1.size
  have s2 := hbut6.1.size
  have s3 := hb7.size
  have hgl5 := hns5.lt
  have n3 : g3 ≠ gs := by have := HG1.out; omega
  have n4 : g4 ≠ gs := by have := HG1.out; omega
  have n5 : g5 ≠ gs := by have := HG1.out; omega
  have hb4' := hb4.trans (hbt.1.mono (by have := HG1.out; omega))
  have hrt7 := hrt.below hb7
  have hns7 := (hns6.below hb7).mono (show 0 + 13 + 40 ≤ 60 by decide)
  have hX7 := (hX4.but hbt n3).below (Nat.lt_of_lt_of_le hX4.lt hbt.1.size) hb7
  have hY7 := (hY4.but hbt n4).below (Nat.lt_of_lt_of_le hY4.lt hbt.1.size) hb7
  have hZ7 := (hZ4.but hbt n5).below (Nat.lt_of_lt_of_le hZ4.lt hbt.1.size) hb7
  have hX7l := hX7.lt
  have hlast : g3 < V6.heap.size ∧ g4 < V6.heap.size ∧ g5 < V6.heap.size ∧ gs < V6.heap.size := ⟨Nat.lt_of_lt_of_le hX4.lt hbt.1.size, Nat.lt_of_lt_of_le hY4.lt hbt.1.size, Nat.lt_of_lt_of_le hZ4.lt hbt.1.size, by omega⟩
  rw [hg7] at hbx7 hlast ⊢
  rw [hB1] at hrt7
  have hbb7 := hb4'.trans (hb7.mono (Nat.le_trans hb4.size hbt.1.size))
  obtain ⟨V8, hst8, hb8, hbx8⟩ := new_txv V7 xa a1 c1
  have hol : ∀ q, (Value.slice a1 xa.tr.length c1).ownBlock = some q → q < V7.heap.size := fun q e => (hrt7.lt _ e).2
  have hge := row_ge hrt7
  have hg7l := hbx7.lt
  go_upto_region 3 with fail
  apply wp_region_lit
  refine gw_load (by kernel_rfl) (some 16) rfl 29 (.tmp 7) rfl ⟨g7, 0, none⟩ (.agg (txA xa a1 c1)) (by kernel_rfl) (load_txb hbx7) ?_
  simp only [pu1, pu2, pu3, pu4]
  refine run_to rfl (some 8) rfl (.pointer (some ⟨V7.heap.size, 0, none⟩)) (V7.alloc (.cells (txA zX none 0) 29)) (by kernel_rfl) ?_
  simp only [pu1, pu2, pu3, pu4]
  refine gw_store (by kernel_rfl) rfl 29 (.tmp 8) (.tmp 16) rfl (.pointer (some ⟨V7.heap.size, 0, none⟩)) (.agg (txA xa a1 c1)) (by kernel_rfl) (by kernel_rfl) (V8) (hst8) ?_
  apply wpList_nil
  obtain ⟨g8, hg8⟩ : ∃ g8, V7.heap.size = g8 := ⟨_, rfl⟩
  rw [hg8] at hbx8 hg7l hol ⊢
  have s4 := hb8.size
  have hbx8l := hbx8.lt
  obtain ⟨B9, hB9⟩ : ∃ B9, V8.heap.size = B9 := ⟨_, rfl⟩
  have hg1 := HG1.out
  have HLY : Hid (Mly w gs g3 g4 g5 g7 g8 B1 B9) := Lib.hid ⟨by omega, by omega, by omega, by omega, by omega, by omega, by omega, by omega, by omega, by omega, by omega, by omega, by omega, by omega, by omega, by omega, by omega, by omega, by omega, by omega, by omega, by omega, by omega, by omega, by omega, by omega, by omega⟩
  have hM8 : Md w gs g3 g4 g5 g7 g8 ak ck L t a c xa a1 c1 B1 xa a1 c1 V8 := ⟨hbb7.trans (hb8.mono hbb7.size), (hns7.below hb8).mono (by decide), hX7.below hX7.lt hb8, hY7.below hY7.lt hb8, hZ7.below hZ7.lt hb8, hbx7.below hbx7.lt hb8, hbx8, hrt7.below hb8⟩
  have hn8 := hns7.below hb8
  have HGQ := Lib.hid hgq
  have HOL := Lib.hid hol
  have HLB : Hid (g8 < B9) := Lib.hid (by omega)
  have HNA : Hid (Nea g4 g5 xa a1) := Lib.hid (fun hn y hy => by have := hge y hy; exact ⟨by omega, by omega⟩)
  have HM13 : Hid (1 ≤ xa.tr.length ∧ xa.tr.length ≤ 3) := Lib.hid ⟨hm1, hm3⟩
  have CX := ns_next hn8 HL.out (by decide) 8 (by decide) (by decide)
  have HB9 : Hid (B9 = V8.heap.size ∧ w.heap.size ≤ B9 ∧ B1 ≤ B9 ∧ g8 + 1 = B9 + 0 ∨ True) := Lib.hid (.inr trivial)
  have HBS : Hid (w.heap.size ≤ B9) := Lib.hid (by omega)
  have HBV : Hid (B9 ≤ V8.heap.size) := Lib.hid (by omega)
  clear hol hge hbt s1 s2 s3 s4 hgl5 n3 n4 n5 hb4' hrt7 hns7 hX7 hY7 hZ7 hX7l hlast hbb7 hg7l hbx8l hg8 hB9 hg1 hb8 hbx8 hst8 hst7 hb7 hbx7 hg7 hB1 hrt hgq hm1 hm3 hns6 hbut6 hrow hAQ hA4 hns5 hbut5 hrcs hrg CTX CAC hb4 hX4 hY4 hZ4 hns4 hgl HAK4 hn8 HB9
  go_upto_region 4 with fail
  apply wp_region_lit
  refine gw_val (by kernel_rfl) (some 17) rfl (.pointer (some ⟨gs, 0, none⟩)) (by kernel_rfl) ?_
  simp only [pu1, pu2, pu3, pu4]
  refine gw_callE (by kernel_rfl) (some 18) rfl 34 #[.pointer (some ⟨gs, 0, none⟩), .int .i64 8] (fun v w' => ∃ q : Nat, v = .int .i64 q ∧ (q : Int) < 8 ∧ NS w' gs ak ck L (60 + 1) ∧ But gs V8 w') (by kernel_rfl) (CX.mono fun e w' z => by obtain ⟨q, h1, h2⟩ := z; exact ⟨_, h1, q, rfl, h2⟩) (fun vv V hq => ?_)
  obtain ⟨v, rfl, hv, hns, hbut⟩ := hq
  simp only [pu1, pu2, pu3, pu4]
  apply wpList_nil
  have HM := Lib.hid (hM8.call HLY.out (hns.mono (by decide)) hbut)
  have HN61 := Lib.hid hns
  have HBB : Hid (B9 ≤ V.heap.size) := Lib.hid (Nat.le_trans HBV.out hbut.1.size)
  clear hM8 hns hbut CX HBV
  rcases (show v = 0 ∨ v = 1 ∨ v = 2 ∨ v = 3 ∨ v = 4 ∨ v = 5 ∨ v = 6 ∨ v = 7 by omega) with rfl | rfl | rfl | rfl | rfl | rfl | rfl | rfl
  · skip
    go_upto_region 6 with fail
    apply wp_region_lit
    refine gw_val (by kernel_rfl) (some 23) rfl (.bool true) (eql_n rfl ((0 : Nat)) (0) (decide_eq_true (by decide)) (by kernel_rfl) (by kernel_rfl) _) ?_
    simp only [pu1, pu2, pu3, pu4]
    refine gw_val (by kernel_rfl) (some 22) rfl (.bool true) (by kernel_rfl) ?_
    simp only [pu1, pu2, pu3, pu4]
    apply wpList_nil
    obtain ⟨V2, hst2, hX2, -, hbt2⟩ := st_cell (i := 0) (ty := 9) (v := .string t.snd) (cs' := txA ⟨t.snd, xa.sq, xa.gas, xa.fee, xa.memo, xa.tr⟩ a1 c1) (w0 := V) (B := g8) HM.out.b8 (Below.refl _ _) (Nat.le_refl _) (by show 0 < 6; decide) rfl (by kernel_rfl) rfl
    have HM2 := Lib.hid (HM.out.set HLY.out HKB.out HOL.out hbt2 hX2)
    go_upto_region 7 with fail
    apply wp_region_lit
    refine gw_val (by kernel_rfl) (some 24) rfl (.pointer (some ⟨g3, 0, none⟩)) (by kernel_rfl) ?_
    simp only [pu1, pu2, pu3, pu4]
    refine gw_load (by kernel_rfl) (some 25) rfl 9 (.tmp 24) rfl ⟨g3, 0, none⟩ (.string t.snd) (by kernel_rfl) (HM.out.b3.load (i := 0) rfl (by kernel_rfl)) ?_
    simp only [pu1, pu2, pu3, pu4]
    refine gw_val (by kernel_rfl) (some 26) rfl (.pointer (some ⟨g8, 0, none⟩)) (by kernel_rfl) ?_
    simp only [pu1, pu2, pu3, pu4]
    refine gw_store (by kernel_rfl) rfl 9 (.tmp 26) (.tmp 25) rfl (.pointer (some ⟨g8, 0, none⟩)) (.string t.snd) (by kernel_rfl) (by kernel_rfl) (V2) (hst2) ?_
    apply wpList_nil
    clear hst2 hX2 hbt2
    have hS := HM2.out
    have hcsb : Cs V2 a1 (tfc (⟨t.snd, xa.sq, xa.gas, xa.fee, xa.memo, xa.tr⟩ : Txd).tr) := by obtain ⟨a9, c9, e9, h9, -⟩ := HM2.out.r1.cs; simp only [Value.slice.injEq, true_and] at e9; obtain ⟨rfl, rfl⟩ := e9; exact h9
    have HNB : Hid (Nea g4 g5 ⟨t.snd, xa.sq, xa.gas, xa.fee, xa.memo, xa.tr⟩ a1) := Lib.hid (HNA.out)
    obtain ⟨ar, cr, er, hcsa, -⟩ := hS.r1.cs
    simp only [Value.slice.injEq, true_and] at er
    obtain ⟨rfl, rfl⟩ := er
    have HWX : Hid (TxB ⟨t.snd, xa.sq, xa.gas, xa.fee, xa.memo, xa.tr⟩ ∧ wtX ⟨t.snd, xa.sq, xa.gas, xa.fee, xa.memo, xa.tr⟩ ≤ 1000 + wtX t) := Lib.hid ⟨⟨HGQ.out.b.sq, HGQ.out.b.gas, HGQ.out.b.fee, HGQ.out.b.am, HTB.out.s1, HGQ.out.b.s2, HGQ.out.b.s3⟩, by have h1 := HGQ.out.wt HM13.out.2; unfold wtX at h1 ⊢; dsimp only at h1 ⊢; omega⟩
    have h0 : K20 w g4 g5 g7 g8 xa a1 c1 ⟨t.snd, xa.sq, xa.gas, xa.fee, xa.memo, xa.tr⟩ a1 c1 false false V2.drew := ⟨hS.bel.drew, hS.b4, hS.b5, hS.b7, hS.b8, hcsa, hcsb⟩
    clear hS hcsa hcsb
    go_upto_region 20 with fail
    refine wp_region_inv (fun listed act9 V => ∃ b0 b1 b2 b3 : Bool, listed = #[b0, b1, b2, b3] ∧ act9 = { tmps := #[.slice ak L.length ck, .agg (txA t a c), undef, .pointer (some ⟨g3, 0, none⟩), .pointer (some ⟨g4, 0, none⟩), .pointer (some ⟨g5, 0, none⟩), .pointer (some ⟨gs, 0, none⟩), .pointer (some ⟨g7, 0, none⟩), .pointer (some ⟨g8, 0, none⟩), .slice ak L.length ck, .pointer (some ⟨gs, 0, none⟩), .pointer (some ⟨gs, 0, none⟩), .pointer (some ⟨gs, 0, none⟩), .slice ra (List.length A) rc, .agg #[.slice ra (List.length A) rc, .int .u64 0], .agg (txA xa a1 c1), .agg (txA xa a1 c1), .pointer (some ⟨gs, 0, none⟩), .int .i64 (0 : Nat), undef, undef, undef, .bool true, .bool true, .pointer (some ⟨g3, 0, none⟩), .string t.snd, .pointer (some ⟨g8, 0, none⟩), undef, undef, undef, undef, undef, undef, undef, undef, undef, undef, undef, undef, undef, undef, undef, undef, undef, undef, undef, undef, undef, undef, undef, undef, undef, undef, undef, undef, undef, undef, undef, undef, undef, undef, undef, undef, undef, undef, undef, undef, undef, (cond b0 (.agg (txA xa a1 c1)) undef), (cond b1 (.agg (txA ⟨t.snd, xa.sq, xa.gas, xa.fee, xa.memo, xa.tr⟩ a1 c1)) undef)], defers := [] } ∧ K20 w g4 g5 g7 g8 xa a1 c1 ⟨t.snd, xa.sq, xa.gas, xa.fee, xa.memo, xa.tr⟩ a1 c1 b2 b3 V) (by kernel_rfl) (by kernel_rfl) ?_ ?_ ?_
    · exact ⟨false, false, false, false, rfl, rfl, h0⟩
    · intro i9 listed act9 V hi9 hr hJ
      obtain ⟨b0, b1, b2, b3, rfl, rfl, hF⟩ := hJ
      have hi2 : i9 < 4 := hi9
      have hi3 : i9 = 0 ∨ i9 = 1 ∨ i9 = 2 ∨ i9 = 3 := by omega
      rcases hi3 with rfl | rfl | rfl | rfl
      · obtain rfl : b0 = false := ready_self hr
        refine st_load rfl (by kernel_rfl) (some 68) rfl 29 (.tmp 7) rfl ⟨g7, 0, none⟩ (.agg (txA xa a1 c1)) (by kernel_rfl) (load_txb hF.b7) ?_
        exact ⟨true, b1, b2, b3, rfl, rfl, hF⟩
      · obtain rfl : b1 = false := ready_self hr
        refine st_load rfl (by kernel_rfl) (some 69) rfl 29 (.tmp 8) rfl ⟨g8, 0, none⟩ (.agg (txA ⟨t.snd, xa.sq, xa.gas, xa.fee, xa.memo, xa.tr⟩ a1 c1)) (by kernel_rfl) (load_txb hF.b8) ?_
        exact ⟨b0, true, b2, b3, rfl, rfl, hF⟩
      · obtain rfl : b2 = false := ready_self hr
        obtain rfl : b0 = true := ready_dep hr 0 (by kernel_rfl)
        obtain ⟨hst, hF2⟩ := hF.s4 HLY.out HNA.out HNB.out
        refine st_storeA rfl (by kernel_rfl) rfl 29 (.tmp 4) (.tmp 68) rfl (.pointer (some ⟨g4, 0, none⟩)) (.agg (txA xa a1 c1)) (by kernel_rfl) (by kernel_rfl) _ hst ?_
        exact ⟨true, b1, true, b3, rfl, rfl, hF2⟩
      · obtain rfl : b3 = false := ready_self hr
        obtain rfl : b1 = true := ready_dep hr 1 (by kernel_rfl)
        obtain ⟨hst, hF2⟩ := hF.s5 HLY.out HNA.out HNB.out
        refine st_storeA rfl (by kernel_rfl) rfl 29 (.tmp 5) (.tmp 69) rfl (.pointer (some ⟨g5, 0, none⟩)) (.agg (txA ⟨t.snd, xa.sq, xa.gas, xa.fee, xa.memo, xa.tr⟩ a1 c1)) (by kernel_rfl) (by kernel_rfl) _ hst ?_
        exact ⟨b0, true, b2, true, rfl, rfl, hF2⟩
    · intro act9 V hJ
      obtain ⟨b0, b1, b2, b3, he, rfl, hF⟩ := hJ
      have he : (#[true, true, true, true] : Array Bool) = #[b0, b1, b2, b3] := he
      simp only [Array.mk.injEq, List.cons.injEq, and_true] at he
      obtain ⟨rfl, rfl, rfl, rfl⟩ := he
      simp only [cond_true]
      have hZ4 : Bx V g4 (txA xa a1 c1) 29 := hF.b4
      have hZ5 : Bx V g5 (txA ⟨t.snd, xa.sq, xa.gas, xa.fee, xa.memo, xa.tr⟩ a1 c1) 29 := hF.b5
      have HE := Lib.hid (⟨xa, ⟨t.snd, xa.sq, xa.gas, xa.fee, xa.memo, xa.tr⟩, a1, c1, a1, c1, rfl, hF.ca, hF.cb, HGQ.out, HM13.out.1, HM13.out.2, HWX.out.1, HWX.out.2, hF.bel⟩ : MadeO w t (.returned (.tuple #[.agg (txA xa a1 c1), .agg (txA ⟨t.snd, xa.sq, xa.gas, xa.fee, xa.memo, xa.tr⟩ a1 c1)])) V)
      clear hF h0 HWX
      go_wp2_with fail
      exact bodyPost_ret (results_2c (p := 4) (q := 5) rfl (by kernel_rfl) (load_txb hZ4) (by kernel_rfl) (load_txb hZ5)) rfl HE.out
  · skip
    go_upto_region 6 with fail
    apply wp_region_lit
    refine gw_val (by kernel_rfl) (some 23) rfl (.bool false) (eql_n rfl ((1 : Nat)) (0) (decide_eq_false (by decide)) (by kernel_rfl) (by kernel_rfl) _) ?_
    simp only [pu1, pu2, pu3, pu4]
    refine gw_val (by kernel_rfl) (some 22) rfl (.bool false) (by kernel_rfl) ?_
    simp only [pu1, pu2, pu3, pu4]
    apply wpList_nil
    go_upto_region 8 with fail
    apply wp_region_lit
    refine gw_val (by kernel_rfl) (some 28) rfl (.bool true) (eql_n rfl ((1 : Nat)) (1) (decide_eq_true (by decide)) (by kernel_rfl) (by kernel_rfl) _) ?_
    simp only [pu1, pu2, pu3, pu4]
    refine gw_val (by kernel_rfl) (some 27) rfl (.bool true) (by kernel_rfl) ?_
    simp only [pu1, pu2, pu3, pu4]
    apply wpList_nil
    obtain ⟨V2, hst2, hX2, -, hbt2⟩ := st_cell (i := 1) (ty := 26) (v := .int .u64 t.sq) (cs' := txA ⟨xa.snd, t.sq, xa.gas, xa.fee, xa.memo, xa.tr⟩ a1 c1) (w0 := V) (B := g8) HM.out.b8 (Below.refl _ _) (Nat.le_refl _) (by show 1 < 6; decide) rfl (by kernel_rfl) rfl
    have HM2 := Lib.hid (HM.out.set HLY.out HKB.out HOL.out hbt2 hX2)
    go_upto_region 9 with fail
    apply wp_region_lit
    refine gw_val (by kernel_rfl) (some 29) rfl (.pointer (some ⟨g3, 1, none⟩)) (by kernel_rfl) ?_
    simp only [pu1, pu2, pu3, pu4]
    refine gw_load (by kernel_rfl) (some 30) rfl 26 (.tmp 29) rfl ⟨g3, 1, none⟩ (.int .u64 t.sq) (by kernel_rfl) (HM.out.b3.load (i := 1) rfl (by kernel_rfl)) ?_
    simp only [pu1, pu2, pu3, pu4]
    refine gw_val (by kernel_rfl) (some 31) rfl (.pointer (some ⟨g8, 1, none⟩)) (by kernel_rfl) ?_
    simp only [pu1, pu2, pu3, pu4]
    refine gw_store (by kernel_rfl) rfl 26 (.tmp 31) (.tmp 30) rfl (.pointer (some ⟨g8, 1, none⟩)) (.int .u64 t.sq) (by kernel_rfl) (by kernel_rfl) (V2) (hst2) ?_
    apply wpList_nil
    clear hst2 hX2 hbt2
    have hS := HM2.out
    have hcsb : Cs V2 a1 (tfc (⟨xa.snd, t.sq, xa.gas, xa.fee, xa.memo, xa.tr⟩ : Txd).tr) := by obtain ⟨a9, c9, e9, h9, -⟩ := HM2.out.r1.cs; simp only [Value.slice.injEq, true_and] at e9; obtain ⟨rfl, rfl⟩ := e9; exact h9
    have HNB : Hid (Nea g4 g5 ⟨xa.snd, t.sq, xa.gas, xa.fee, xa.memo, xa.tr⟩ a1) := Lib.hid (HNA.out)
    obtain ⟨ar, cr, er, hcsa, -⟩ := hS.r1.cs
    simp only [Value.slice.injEq, true_and] at er
    obtain ⟨rfl, rfl⟩ := er
    have HWX : Hid (TxB ⟨xa.snd, t.sq, xa.gas, xa.fee, xa.memo, xa.tr⟩ ∧ wtX ⟨xa.snd, t.sq, xa.gas, xa.fee, xa.memo, xa.tr⟩ ≤ 1000 + wtX t) := Lib.hid ⟨⟨HTB.out.sq, HGQ.out.b.gas, HGQ.out.b.fee, HGQ.out.b.am, HGQ.out.b.s1, HGQ.out.b.s2, HGQ.out.b.s3⟩, by have h1 := HGQ.out.wt HM13.out.2; unfold wtX at h1 ⊢; dsimp only at h1 ⊢; omega⟩
    have h0 : K20 w g4 g5 g7 g8 xa a1 c1 ⟨xa.snd, t.sq, xa.gas, xa.fee, xa.memo, xa.tr⟩ a1 c1 false false V2.drew := ⟨hS.bel.drew, hS.b4, hS.b5, hS.b7, hS.b8, hcsa, hcsb⟩
    clear hS hcsa hcsb
    go_upto_region 20 with fail
    refine wp_region_inv (fun listed act9 V => ∃ b0 b1 b2 b3 : Bool, listed = #[b0, b1, b2, b3] ∧ act9 = { tmps := #[.slice ak L.length ck, .agg (txA t a c), undef, .pointer (some ⟨g3, 0, none⟩), .pointer (some ⟨g4, 0, none⟩), .pointer (some ⟨g5, 0, none⟩), .pointer (some ⟨gs, 0, none⟩), .pointer (some ⟨g7, 0, none⟩), .pointer (some ⟨g8, 0, none⟩), .slice ak L.length ck, .pointer (some ⟨gs, 0, none⟩), .pointer (some ⟨gs, 0, none⟩), .pointer (some ⟨gs, 0, none⟩), .slice ra (List.length A) rc, .agg #[.slice ra (List.length A) rc, .int .u64 0], .agg (txA xa a1 c1), .agg (txA xa a1 c1), .pointer (some ⟨gs, 0, none⟩), .int .i64 (1 : Nat), undef, undef, undef, .bool false, .bool false, undef, undef, undef, .bool true, .bool true, .pointer (some ⟨g3, 1, none⟩), .int .u64 t.sq, .pointer (some ⟨g8, 1, none⟩), undef, undef, undef, undef, undef, undef, undef, undef, undef, undef, undef, undef, undef, undef, undef, undef, undef, undef, undef, undef, undef, undef, undef, undef, undef, undef, undef, undef, undef, undef, undef, undef, undef, undef, undef, undef, (cond b0 (.agg (txA xa a1 c1)) undef), (cond b1 (.agg (txA ⟨xa.snd, t.sq, xa.gas, xa.fee, xa.memo, xa.tr⟩ a1 c1)) undef)], defers := [] } ∧ K20 w g4 g5 g7 g8 xa a1 c1 ⟨xa.snd, t.sq, xa.gas, xa.fee, xa.memo, xa.tr⟩ a1 c1 b2 b3 V) (by kernel_rfl) (by kernel_rfl) ?_ ?_ ?_
    · exact ⟨false, false, false, false, rfl, rfl, h0⟩
    · intro i9 listed act9 V hi9 hr hJ
      obtain ⟨b0, b1, b2, b3, rfl, rfl, hF⟩ := hJ
      have hi2 : i9 < 4 := hi9
      have hi3 : i9 = 0 ∨ i9 = 1 ∨ i9 = 2 ∨ i9 = 3 := by omega
      rcases hi3 with rfl | rfl | rfl | rfl
      · obtain rfl : b0 = false := ready_self hr
        refine st_load rfl (by kernel_rfl) (some 68) rfl 29 (.tmp 7) rfl ⟨g7, 0, none⟩ (.agg (txA xa a1 c1)) (by kernel_rfl) (load_txb hF.b7) ?_
        exact ⟨true, b1, b2, b3, rfl, rfl, hF⟩
      · obtain rfl : b1 = false := ready_self hr
        refine st_load rfl (by kernel_rfl) (some 69) rfl 29 (.tmp 8) rfl ⟨g8, 0, none⟩ (.agg (txA ⟨xa.snd, t.sq, xa.gas, xa.fee, xa.memo, xa.tr⟩ a1 c1)) (by kernel_rfl) (load_txb hF.b8) ?_
        exact ⟨b0, true, b2, b3, rfl, rfl, hF⟩
      · obtain rfl : b2 = false := ready_self hr
        obtain rfl : b0 = true := ready_dep hr 0 (by kernel_rfl)
        obtain ⟨hst, hF2⟩ := hF.s4 HLY.out HNA.out HNB.out
        refine st_storeA rfl (by kernel_rfl) rfl 29 (.tmp 4) (.tmp 68) rfl (.pointer (some ⟨g4, 0, none⟩)) (.agg (txA xa a1 c1)) (by kernel_rfl) (by kernel_rfl) _ hst ?_
        exact ⟨true, b1, true, b3, rfl, rfl, hF2⟩
      · obtain rfl : b3 = false := ready_self hr
        obtain rfl : b1 = true := ready_dep hr 1 (by kernel_rfl)
        obtain ⟨hst, hF2⟩ := hF.s5 HLY.out HNA.out HNB.out
        refine st_storeA rfl (by kernel_rfl) rfl 29 (.tmp 5) (.tmp 69) rfl (.pointer (some ⟨g5, 0, none⟩)) (.agg (txA ⟨xa.snd, t.sq, xa.gas, xa.fee, xa.memo, xa.tr⟩ a1 c1)) (by kernel_rfl) (by kernel_rfl) _ hst ?_
        exact ⟨b0, true, b2, true, rfl, rfl, hF2⟩
    · intro act9 V hJ
      obtain ⟨b0, b1, b2, b3, he, rfl, hF⟩ := hJ
      have he : (#[true, true, true, true] : Array Bool) = #[b0, b1, b2, b3] := he
      simp only [Array.mk.injEq, List.cons.injEq, and_true] at he
      obtain ⟨rfl, rfl, rfl, rfl⟩ := he
      simp only [cond_true]
      have hZ4 : Bx V g4 (txA xa a1 c1) 29 := hF.b4
      have hZ5 : Bx V g5 (txA ⟨xa.snd, t.sq, xa.gas, xa.fee, xa.memo, xa.tr⟩ a1 c1) 29 := hF.b5
      have HE := Lib.hid (⟨xa, ⟨xa.snd, t.sq, xa.gas, xa.fee, xa.memo, xa.tr⟩, a1, c1, a1, c1, rfl, hF.ca, hF.cb, HGQ.out, HM13.out.1, HM13.out.2, HWX.out.1, HWX.out.2, hF.bel⟩ : MadeO w t (.returned (.tuple #[.agg (txA xa a1 c1), .agg (txA ⟨xa.snd, t.sq, xa.gas, xa.fee, xa.memo, xa.tr⟩ a1 c1)])) V)
      clear hF h0 HWX
      go_wp2_with fail
      exact bodyPost_ret (results_2c (p := 4) (q := 5) rfl (by kernel_rfl) (load_txb hZ4) (by kernel_rfl) (load_txb hZ5)) rfl HE.out
  · skip
    go_upto_region 6 with fail
    apply wp_region_lit
    refine gw_val (by kernel_rfl) (some 23) rfl (.bool false) (eql_n rfl ((2 : Nat)) (0) (decide_eq_false (by decide)) (by kernel_rfl) (by kernel_rfl) _) ?_
    simp only [pu1, pu2, pu3, pu4]
    refine gw_val (by kernel_rfl) (some 22) rfl (.bool false) (by kernel_rfl) ?_
    simp only [pu1, pu2, pu3, pu4]
    apply wpList_nil
    go_upto_region 8 with fail
    apply wp_region_lit
    refine gw_val (by kernel_rfl) (some 28) rfl (.bool false) (eql_n rfl ((2 : Nat)) (1) (decide_eq_false (by decide)) (by kernel_rfl) (by kernel_rfl) _) ?_
    simp only [pu1, pu2, pu3, pu4]
    refine gw_val (by kernel_rfl) (some 27) rfl (.bool false) (by kernel_rfl) ?_
    simp only [pu1, pu2, pu3, pu4]
    apply wpList_nil
    go_upto_region 10 with fail
    apply wp_region_lit
    refine gw_val (by kernel_rfl) (some 33) rfl (.bool true) (eql_n rfl ((2 : Nat)) (2) (decide_eq_true (by decide)) (by kernel_rfl) (by kernel_rfl) _) ?_
    simp only [pu1, pu2, pu3, pu4]
    refine gw_val (by kernel_rfl) (some 32) rfl (.bool true) (by kernel_rfl) ?_
    simp only [pu1, pu2, pu3, pu4]
    apply wpList_nil
    have CX2 := ns_next HN61.out HL.out (by decide) 2 (by decide) (by decide)
    go_upto_region 11 with fail
    apply wp_region_lit
    refine gw_val (by kernel_rfl) (some 34) rfl (.pointer (some ⟨gs, 0, none⟩)) (by kernel_rfl) ?_
    simp only [pu1, pu2, pu3, pu4]
    refine gw_callE (by kernel_rfl) (some 35) rfl 34 #[.pointer (some ⟨gs, 0, none⟩), .int .i64 2] (fun v w' => ∃ q : Nat, v = .int .i64 q ∧ (q : Int) < 2 ∧ NS w' gs ak ck L (60 + 1 + 1) ∧ But gs V w') (by kernel_rfl) (CX2.mono fun e w' z => by obtain ⟨q, h1, h2⟩ := z; exact ⟨_, h1, q, rfl, h2⟩) (fun vv V9 hq => ?_)
    obtain ⟨v2, rfl, hv2, hns2, hbut2⟩ := hq
    have HM9 := Lib.hid (HM.out.call HLY.out (hns2.mono (by decide)) hbut2)
    obtain ⟨V2, hst2, hX2, -, hbt2⟩ := st_cell (i := 2) (ty := 26) (v := .int .u64 v2) (cs' := txA ⟨xa.snd, xa.sq, v2, xa.fee, xa.memo, xa.tr⟩ a1 c1) (w0 := V9) (B := g8) HM9.out.b8 (Below.refl _ _) (Nat.le_refl _) (by show 2 < 6; decide) rfl (by kernel_rfl) rfl
    have HM2 := Lib.hid (HM9.out.set HLY.out HKB.out HOL.out hbt2 hX2)
    have HG2 : Hid (W64 (v2 : Int)) := Lib.hid ⟨by omega, by omega⟩
    simp only [pu1, pu2, pu3, pu4]
    refine gw_val (by kernel_rfl) (some 36) rfl (.int .u64 v2) (conv_iu rfl v2 (by omega) (by omega) (by kernel_rfl) _) ?_
    simp only [pu1, pu2, pu3, pu4]
    refine gw_val (by kernel_rfl) (some 37) rfl (.pointer (some ⟨g8, 2, none⟩)) (by kernel_rfl) ?_
    simp only [pu1, pu2, pu3, pu4]
    refine gw_store (by kernel_rfl) rfl 26 (.tmp 37) (.tmp 36) rfl (.pointer (some ⟨g8, 2, none⟩)) (.int .u64 v2) (by kernel_rfl) (by kernel_rfl) (V2) (hst2) ?_
    apply wpList_nil
    clear hst2 hX2 hbt2 CX2 hns2 hbut2 HM9 hv2
    have hS := HM2.out
    have hcsb : Cs V2 a1 (tfc (⟨xa.snd, xa.sq, v2, xa.fee, xa.memo, xa.tr⟩ : Txd).tr) := by obtain ⟨a9, c9, e9, h9, -⟩ := HM2.out.r1.cs; simp only [Value.slice.injEq, true_and] at e9; obtain ⟨rfl, rfl⟩ := e9; exact h9
    have HNB : Hid (Nea g4 g5 ⟨xa.snd, xa.sq, v2, xa.fee, xa.memo, xa.tr⟩ a1) := Lib.hid (HNA.out)
    obtain ⟨ar, cr, er, hcsa, -⟩ := hS.r1.cs
    simp only [Value.slice.injEq, true_and] at er
    obtain ⟨rfl, rfl⟩ := er
    have HWX : Hid (TxB ⟨xa.snd, xa.sq, v2, xa.fee, xa.memo, xa.tr⟩ ∧ wtX ⟨xa.snd, xa.sq, v2, xa.fee, xa.memo, xa.tr⟩ ≤ 1000 + wtX t) := Lib.hid ⟨⟨HGQ.out.b.sq, HG2.out, HGQ.out.b.fee, HGQ.out.b.am, HGQ.out.b.s1, HGQ.out.b.s2, HGQ.out.b.s3⟩, by have h1 := HGQ.out.wt HM13.out.2; unfold wtX at h1 ⊢; dsimp only at h1 ⊢; omega⟩
    have h0 : K20 w g4 g5 g7 g8 xa a1 c1 ⟨xa.snd, xa.sq, v2, xa.fee, xa.memo, xa.tr⟩ a1 c1 false false V2.drew := ⟨hS.bel.drew, hS.b4, hS.b5, hS.b7, hS.b8, hcsa, hcsb⟩
    clear hS hcsa hcsb
    go_upto_region 20 with fail
    refine wp_region_inv (fun listed act9 V => ∃ b0 b1 b2 b3 : Bool, listed = #[b0, b1, b2, b3] ∧ act9 = { tmps := #[.slice ak L.length ck, .agg (txA t a c), undef, .pointer (some ⟨g3, 0, none⟩), .pointer (some ⟨g4, 0, none⟩), .pointer (some ⟨g5, 0, none⟩), .pointer (some ⟨gs, 0, none⟩), .pointer (some ⟨g7, 0, none⟩), .pointer (some ⟨g8, 0, none⟩), .slice ak L.length ck, .pointer (some ⟨gs, 0, none⟩), .pointer (some ⟨gs, 0, none⟩), .pointer (some ⟨gs, 0, none⟩), .slice ra (List.length A) rc, .agg #[.slice ra (List.length A) rc, .int .u64 0], .agg (txA xa a1 c1), .agg (txA xa a1 c1), .pointer (some ⟨gs, 0, none⟩), .int .i64 (2 : Nat), undef, undef, undef, .bool false, .bool false, undef, undef, undef, .bool false, .bool false, undef, undef, undef, .bool true, .bool true, .pointer (some ⟨gs, 0, none⟩), .int .i64 v2, .int .u64 v2, .pointer (some ⟨g8, 2, none⟩), undef, undef, undef, undef, undef, undef, undef, undef, undef, undef, undef, undef, undef, undef, undef, undef, undef, undef, undef, undef, undef, undef, undef, undef, undef, undef, undef, undef, undef, undef, (cond b0 (.agg (txA xa a1 c1)) undef), (cond b1 (.agg (txA ⟨xa.snd, xa.sq, v2, xa.fee, xa.memo, xa.tr⟩ a1 c1)) undef)], defers := [] } ∧ K20 w g4 g5 g7 g8 xa a1 c1 ⟨xa.snd, xa.sq, v2, xa.fee, xa.memo, xa.tr⟩ a1 c1 b2 b3 V) (by kernel_rfl) (by kernel_rfl) ?_ ?_ ?_
    · exact ⟨false, false, false, false, rfl, rfl, h0⟩
    · intro i9 listed act9 V hi9 hr hJ
      obtain ⟨b0, b1, b2, b3, rfl, rfl, hF⟩ := hJ
      have hi2 : i9 < 4 := hi9
      have hi3 : i9 = 0 ∨ i9 = 1 ∨ i9 = 2 ∨ i9 = 3 := by omega
      rcases hi3 with rfl | rfl | rfl | rfl
      · obtain rfl : b0 = false := ready_self hr
        refine st_load rfl (by kernel_rfl) (some 68) rfl 29 (.tmp 7) rfl ⟨g7, 0, none⟩ (.agg (txA xa a1 c1)) (by kernel_rfl) (load_txb hF.b7) ?_
        exact ⟨true, b1, b2, b3, rfl, rfl, hF⟩
      · obtain rfl : b1 = false := ready_self hr
        refine st_load rfl (by kernel_rfl) (some 69) rfl 29 (.tmp 8) rfl ⟨g8, 0, none⟩ (.agg (txA ⟨xa.snd, xa.sq, v2, xa.fee, xa.memo, xa.tr⟩ a1 c1)) (by kernel_rfl) (load_txb hF.b8) ?_
        exact ⟨b0, true, b2, b3, rfl, rfl, hF⟩
      · obtain rfl : b2 = false := ready_self hr
        obtain rfl : b0 = true := ready_dep hr 0 (by kernel_rfl)
        obtain ⟨hst, hF2⟩ := hF.s4 HLY.out HNA.out HNB.out
        refine st_storeA rfl (by kernel_rfl) rfl 29 (.tmp 4) (.tmp 68) rfl (.pointer (some ⟨g4, 0, none⟩)) (.agg (txA xa a1 c1)) (by kernel_rfl) (by kernel_rfl) _ hst ?_
        exact ⟨true, b1, true, b3, rfl, rfl, hF2⟩
      · obtain rfl : b3 = false := ready_self hr
        obtain rfl : b1 = true := ready_dep hr 1 (by kernel_rfl)
        obtain ⟨hst, hF2⟩ := hF.s5 HLY.out HNA.out HNB.out
        refine st_storeA rfl (by kernel_rfl) rfl 29 (.tmp 5) (.tmp 69) rfl (.pointer (some ⟨g5, 0, none⟩)) (.agg (txA ⟨xa.snd, xa.sq, v2, xa.fee, xa.memo, xa.tr⟩ a1 c1)) (by kernel_rfl) (by kernel_rfl) _ hst ?_
        exact ⟨b0, true, b2, true, rfl, rfl, hF2⟩
    · intro act9 V hJ
      obtain ⟨b0, b1, b2, b3, he, rfl, hF⟩ := hJ
      have he : (#[true, true, true, true] : Array Bool) = #[b0, b1, b2, b3] := he
      simp only [Array.mk.injEq, List.cons.injEq, and_true] at he
      obtain ⟨rfl, rfl, rfl, rfl⟩ := he
      simp only [cond_true]
      have hZ4 : Bx V g4 (txA xa a1 c1) 29 := hF.b4
      have hZ5 : Bx V g5 (txA ⟨xa.snd, xa.sq, v2, xa.fee, xa.memo, xa.tr⟩ a1 c1) 29 := hF.b5
      have HE := Lib.hid (⟨xa, ⟨xa.snd, xa.sq, v2, xa.fee, xa.memo, xa.tr⟩, a1, c1, a1, c1, rfl, hF.ca, hF.cb, HGQ.out, HM13.out.1, HM13.out.2, HWX.out.1, HWX.out.2, hF.bel⟩ : MadeO w t (.returned (.tuple #[.agg (txA xa a1 c1), .agg (txA ⟨xa.snd, xa.sq, v2, xa.fee, xa.memo, xa.tr⟩ a1 c1)])) V)
      clear hF h0 HWX
      go_wp2_with fail
      exact bodyPost_ret (results_2c (p := 4) (q := 5) rfl (by kernel_rfl) (load_txb hZ4) (by kernel_rfl) (load_txb hZ5)) rfl HE.out
  · skip
    go_upto_region 6 with fail
    apply wp_region_lit
    refine gw_val (by kernel_rfl) (some 23) rfl (.bool false) (eql_n rfl ((3 : Nat)) (0) (decide_eq_false (by decide)) (by kernel_rfl) (by kernel_rfl) _) ?_
    simp only [pu1, pu2, pu3, pu4]
    refine gw_val (by kernel_rfl) (some 22) rfl (.bool false) (by kernel_rfl) ?_
    simp only [pu1, pu2, pu3, pu4]
    apply wpList_nil
    go_upto_region 8 with fail
    apply wp_region_lit
    refine gw_val (by kernel_rfl) (some 28) rfl (.bool false) (eql_n rfl ((3 : Nat)) (1) (decide_eq_false (by decide)) (by kernel_rfl) (by kernel_rfl) _) ?_
    simp only [pu1, pu2, pu3, pu4]
    refine gw_val (by kernel_rfl) (some 27) rfl (.bool false) (by kernel_rfl) ?_
    simp only [pu1, pu2, pu3, pu4]
    apply wpList_nil
    go_upto_region 10 with fail
    apply wp_region_lit
    refine gw_val (by kernel_rfl) (some 33) rfl (.bool false) (eql_n rfl ((3 : Nat)) (2) (decide_eq_false (by decide)) (by kernel_rfl) (by kernel_rfl) _) ?_
    simp only [pu1, pu2, pu3, pu4]
    refine gw_val (by kernel_rfl) (some 32) rfl (.bool false) (by kernel_rfl) ?_
    simp only [pu1, pu2, pu3, pu4]
    apply wpList_nil
    go_upto_region 12 with fail
    apply wp_region_lit
    refine gw_val (by kernel_rfl) (some 39) rfl (.bool true) (eql_n rfl ((3 : Nat)) (3) (decide_eq_true (by decide)) (by kernel_rfl) (by kernel_rfl) _) ?_
    simp only [pu1, pu2, pu3, pu4]
    refine gw_val (by kernel_rfl) (some 38) rfl (.bool true) (by kernel_rfl) ?_
    simp only [pu1, pu2, pu3, pu4]
    apply wpList_nil
    obtain ⟨V2, hst2, hX2, -, hbt2⟩ := st_cell (i := 4) (ty := 9) (v := .string t.memo) (cs' := txA ⟨xa.snd, xa.sq, xa.gas, xa.fee, t.memo, xa.tr⟩ a1 c1) (w0 := V) (B := g8) HM.out.b8 (Below.refl _ _) (Nat.le_refl _) (by show 4 < 6; decide) rfl (by kernel_rfl) rfl
    have HM2 := Lib.hid (HM.out.set HLY.out HKB.out HOL.out hbt2 hX2)
    go_upto_region 13 with fail
    apply wp_region_lit
    refine gw_val (by kernel_rfl) (some 40) rfl (.pointer (some ⟨g3, 4, none⟩)) (by kernel_rfl) ?_
    simp only [pu1, pu2, pu3, pu4]
    refine gw_load (by kernel_rfl) (some 41) rfl 9 (.tmp 40) rfl ⟨g3, 4, none⟩ (.string t.memo) (by kernel_rfl) (HM.out.b3.load (i := 4) rfl (by kernel_rfl)) ?_
    simp only [pu1, pu2, pu3, pu4]
    refine gw_val (by kernel_rfl) (some 42) rfl (.pointer (some ⟨g8, 4, none⟩)) (by kernel_rfl) ?_
    simp only [pu1, pu2, pu3, pu4]
    refine gw_store (by kernel_rfl) rfl 9 (.tmp 42) (.tmp 41) rfl (.pointer (some ⟨g8, 4, none⟩)) (.string t.memo) (by kernel_rfl) (by kernel_rfl) (V2) (hst2) ?_
    apply wpList_nil
    clear hst2 hX2 hbt2
    have hS := HM2.out
    have hcsb : Cs V2 a1 (tfc (⟨xa.snd, xa.sq, xa.gas, xa.fee, t.memo, xa.tr⟩ : Txd).tr) := by obtain ⟨a9, c9, e9, h9, -⟩ := HM2.out.r1.cs; simp only [Value.slice.injEq, true_and] at e9; obtain ⟨rfl, rfl⟩ := e9; exact h9
    have HNB : Hid (Nea g4 g5 ⟨xa.snd, xa.sq, xa.gas, xa.fee, t.memo, xa.tr⟩ a1) := Lib.hid (HNA.out)
    obtain ⟨ar, cr, er, hcsa, -⟩ := hS.r1.cs
    simp only [Value.slice.injEq, true_and] at er
    obtain ⟨rfl, rfl⟩ := er
    have HWX : Hid (TxB ⟨xa.snd, xa.sq, xa.gas, xa.fee, t.memo, xa.tr⟩ ∧ wtX ⟨xa.snd, xa.sq, xa.gas, xa.fee, t.memo, xa.tr⟩ ≤ 1000 + wtX t) := Lib.hid ⟨⟨HGQ.out.b.sq, HGQ.out.b.gas, HGQ.out.b.fee, HGQ.out.b.am, HGQ.out.b.s1, HTB.out.s2, HGQ.out.b.s3⟩, by have h1 := HGQ.out.wt HM13.out.2; unfold wtX at h1 ⊢; dsimp only at h1 ⊢; omega⟩
    have h0 : K20 w g4 g5 g7 g8 xa a1 c1 ⟨xa.snd, xa.sq, xa.gas, xa.fee, t.memo, xa.tr⟩ a1 c1 false false V2.drew := ⟨hS.bel.drew, hS.b4, hS.b5, hS.b7, hS.b8, hcsa, hcsb⟩
    clear hS hcsa hcsb
    go_upto_region 20 with fail
    refine wp_region_inv (fun listed act9 V => ∃ b0 b1 b2 b3 : Bool, listed = #[b0, b1, b2, b3] ∧ act9 = { tmps := #[.slice ak L.length ck, .agg (txA t a c), undef, .pointer (some ⟨g3, 0, none⟩), .pointer (some ⟨g4, 0, none⟩), .pointer (some ⟨g5, 0, none⟩), .pointer (some ⟨gs, 0, none⟩), .pointer (some ⟨g7, 0, none⟩), .pointer (some ⟨g8, 0, none⟩), .slice ak L.length ck, .pointer (some ⟨gs, 0, none⟩), .pointer (some ⟨gs, 0, none⟩), .pointer (some ⟨gs, 0, none⟩), .slice ra (List.length A) rc, .agg #[.slice ra (List.length A) rc, .int .u64 0], .agg (txA xa a1 c1), .agg (txA xa a1 c1), .pointer (some ⟨gs, 0, none⟩), .int .i64 (3 : Nat), undef, undef, undef, .bool false, .bool false, undef, undef, undef, .bool false, .bool false, undef, undef, undef, .bool false, .bool false, undef, undef, undef, undef, .bool true, .bool true, .pointer (some ⟨g3, 4, none⟩), .string t.memo, .pointer (some ⟨g8, 4, none⟩), undef, undef, undef, undef, undef, undef, undef, undef, undef, undef, undef, undef, undef, undef, undef, undef, undef, undef, undef, undef, undef, undef, undef, undef, undef, (cond b0 (.agg (txA xa a1 c1)) undef), (cond b1 (.agg (txA ⟨xa.snd, xa.sq, xa.gas, xa.fee, t.memo, xa.tr⟩ a1 c1)) undef)], defers := [] } ∧ K20 w g4 g5 g7 g8 xa a1 c1 ⟨xa.snd, xa.sq, xa.gas, xa.fee, t.memo, xa.tr⟩ a1 c1 b2 b3 V) (by kernel_rfl) (by kernel_rfl) ?_ ?_ ?_
    · exact ⟨false, false, false, false, rfl, rfl, h0⟩
    · intro i9 listed act9 V hi9 hr hJ
      obtain ⟨b0, b1, b2, b3, rfl, rfl, hF⟩ := hJ
      have hi2 : i9 < 4 := hi9
      have hi3 : i9 = 0 ∨ i9 = 1 ∨ i9 = 2 ∨ i9 = 3 := by omega
      rcases hi3 with rfl | rfl | rfl | rfl
      · obtain rfl : b0 = false := ready_self hr
        refine st_load rfl (by kernel_rfl) (some 68) rfl 29 (.tmp 7) rfl ⟨g7, 0, none⟩ (.agg (txA xa a1 c1)) (by kernel_rfl) (load_txb hF.b7) ?_
        exact ⟨true, b1, b2, b3, rfl, rfl, hF⟩
      · obtain rfl : b1 = false := ready_self hr
        refine st_load rfl (by kernel_rfl) (some 69) rfl 29 (.tmp 8) rfl ⟨g8, 0, none⟩ (.agg (txA ⟨xa.snd, xa.sq, xa.gas, xa.fee, t.memo, xa.tr⟩ a1 c1)) (by kernel_rfl) (load_txb hF.b8) ?_
        exact ⟨b0, true, b2, b3, rfl, rfl, hF⟩
      · obtain rfl : b2 = false := ready_self hr
        obtain rfl : b0 = true := ready_dep hr 0 (by kernel_rfl)
        obtain ⟨hst, hF2⟩ := hF.s4 HLY.out HNA.out HNB.out
        refine st_storeA rfl (by kernel_rfl) rfl 29 (.tmp 4) (.tmp 68) rfl (.pointer (some ⟨g4, 0, none⟩)) (.agg (txA xa a1 c1)) (by kernel_rfl) (by kernel_rfl) _ hst ?_
        exact ⟨true, b1, true, b3, rfl, rfl, hF2⟩
      · obtain rfl : b3 = false := ready_self hr
        obtain rfl : b1 = true := ready_dep hr 1 (by kernel_rfl)
        obtain ⟨hst, hF2⟩ := hF.s5 HLY.out HNA.out HNB.out
        refine st_storeA rfl (by kernel_rfl) rfl 29 (.tmp 5) (.tmp 69) rfl (.pointer (some ⟨g5, 0, none⟩)) (.agg (txA ⟨xa.snd, xa.sq, xa.gas, xa.fee, t.memo, xa.tr⟩ a1 c1)) (by kernel_rfl) (by kernel_rfl) _ hst ?_
        exact ⟨b0, true, b2, true, rfl, rfl, hF2⟩
    · intro act9 V hJ
      obtain ⟨b0, b1, b2, b3, he, rfl, hF⟩ := hJ
      have he : (#[true, true, true, true] : Array Bool) = #[b0, b1, b2, b3] := he
      simp only [Array.mk.injEq, List.cons.injEq, and_true] at he
      obtain ⟨rfl, rfl, rfl, rfl⟩ := he
      simp only [cond_true]
      have hZ4 : Bx V g4 (txA xa a1 c1) 29 := hF.b4
      have hZ5 : Bx V g5 (txA ⟨xa.snd, xa.sq, xa.gas, xa.fee, t.memo, xa.tr⟩ a1 c1) 29 := hF.b5
      have HE := Lib.hid (⟨xa, ⟨xa.snd, xa.sq, xa.gas, xa.fee, t.memo, xa.tr⟩, a1, c1, a1, c1, rfl, hF.ca, hF.cb, HGQ.out, HM13.out.1, HM13.out.2, HWX.out.1, HWX.out.2, hF.bel⟩ : MadeO w t (.returned (.tuple #[.agg (txA xa a1 c1), .agg (txA ⟨xa.snd, xa.sq, xa.gas, xa.fee, t.memo, xa.tr⟩ a1 c1)])) V)
      clear hF h0 HWX
      go_wp2_with fail
      exact bodyPost_ret (results_2c (p := 4) (q := 5) rfl (by kernel_rfl) (load_txb hZ4) (by kernel_rfl) (load_txb hZ5)) rfl HE.out
  · skip
    go_upto_region 6 with fail
    apply wp_region_lit
    refine gw_val (by kernel_rfl) (some 23) rfl (.bool false) (eql_n rfl ((4 : Nat)) (0) (decide_eq_false (by decide)) (by kernel_rfl) (by kernel_rfl) _) ?_
    simp only [pu1, pu2, pu3, pu4]
    refine gw_val (by kernel_rfl) (some 22) rfl (.bool false) (by kernel_rfl) ?_
    simp only [pu1, pu2, pu3, pu4]
    apply wpList_nil
    go_upto_region 8 with fail
    apply wp_region_lit
    refine gw_val (by kernel_rfl) (some 28) rfl (.bool false) (eql_n rfl ((4 : Nat)) (1) (decide_eq_false (by decide)) (by kernel_rfl) (by kernel_rfl) _) ?_
    simp only [pu1, pu2, pu3, pu4]
    refine gw_val (by kernel_rfl) (some 27) rfl (.bool false) (by kernel_rfl) ?_
    simp only [pu1, pu2, pu3, pu4]
    apply wpList_nil
    go_upto_region 10 with fail
    apply wp_region_lit
    refine gw_val (by kernel_rfl) (some 33) rfl (.bool false) (eql_n rfl ((4 : Nat)) (2) (decide_eq_false (by decide)) (by kernel_rfl) (by kernel_rfl) _) ?_
    simp only [pu1, pu2, pu3, pu4]
    refine gw_val (by kernel_rfl) (some 32) rfl (.bool false) (by kernel_rfl) ?_
    simp only [pu1, pu2, pu3, pu4]
    apply wpList_nil
    go_upto_region 12 with fail
    apply wp_region_lit
    refine gw_val (by kernel_rfl) (some 39) rfl (.bool false) (eql_n rfl ((4 : Nat)) (3) (decide_eq_false (by decide)) (by kernel_rfl) (by kernel_rfl) _) ?_
    simp only [pu1, pu2, pu3, pu4]
    refine gw_val (by kernel_rfl) (some 38) rfl (.bool false) (by kernel_rfl) ?_
    simp only [pu1, pu2, pu3, pu4]
    apply wpList_nil
    go_upto_region 14 with fail
    apply wp_region_lit
    refine gw_val (by kernel_rfl) (some 44) rfl (.bool true) (eql_n rfl ((4 : Nat)) (4) (decide_eq_true (by decide)) (by kernel_rfl) (by kernel_rfl) _) ?_
    simp only [pu1, pu2, pu3, pu4]
    refine gw_val (by kernel_rfl) (some 43) rfl (.bool true) (by kernel_rfl) ?_
    simp only [pu1, pu2, pu3, pu4]
    apply wpList_nil
    obtain ⟨V2, hst2, hX2, -, hbt2⟩ := st_cell (i := 5) (ty := 27) (v := .slice a t.tr.length c) (cs' := txA ⟨xa.snd, xa.sq, xa.gas, xa.fee, xa.memo, t.tr⟩ a c) (w0 := V) (B := g8) HM.out.b8 (Below.refl _ _) (Nat.le_refl _) (by show 5 < 6; decide) rfl (by kernel_rfl) rfl
    have HM2 := Lib.hid (HM.out.set HLY.out HKB.out HOL.out hbt2 hX2)
    go_upto_region 15 with fail
    apply wp_region_lit
    refine gw_val (by kernel_rfl) (some 45) rfl (.pointer (some ⟨g3, 5, none⟩)) (by kernel_rfl) ?_
    simp only [pu1, pu2, pu3, pu4]
    refine gw_load (by kernel_rfl) (some 46) rfl 27 (.tmp 45) rfl ⟨g3, 5, none⟩ (.slice a t.tr.length c) (by kernel_rfl) (HM.out.b3.load (i := 5) rfl (by kernel_rfl)) ?_
    simp only [pu1, pu2, pu3, pu4]
    refine gw_val (by kernel_rfl) (some 47) rfl (.pointer (some ⟨g8, 5, none⟩)) (by kernel_rfl) ?_
    simp only [pu1, pu2, pu3, pu4]
    refine gw_store (by kernel_rfl) rfl 27 (.tmp 47) (.tmp 46) rfl (.pointer (some ⟨g8, 5, none⟩)) (.slice a t.tr.length c) (by kernel_rfl) (by kernel_rfl) (V2) (hst2) ?_
    apply wpList_nil
    clear hst2 hX2 hbt2
    have hS := HM2.out
    have hcsb : Cs V2 a (tfc (⟨xa.snd, xa.sq, xa.gas, xa.fee, xa.memo, t.tr⟩ : Txd).tr) := HCT.out.below HM2.out.bel
    have HNB : Hid (Nea g4 g5 ⟨xa.snd, xa.sq, xa.gas, xa.fee, xa.memo, t.tr⟩ a) := Lib.hid (fun hn y hy => by have h1 := HLY.out.h4; have h2 := HLY.out.h5; obtain ⟨b9, o9, e9, hb9, -⟩ := HCT.out 0 _ (List.getElem?_eq_getElem (List.length_pos_iff.2 hn)); rw [hy] at e9; cases e9; exact ⟨by show b9 ≠ g4; omega, by show b9 ≠ g5; omega⟩)
    obtain ⟨ar, cr, er, hcsa, -⟩ := hS.r1.cs
    simp only [Value.slice.injEq, true_and] at er
    obtain ⟨rfl, rfl⟩ := er
    have HWX : Hid (TxB ⟨xa.snd, xa.sq, xa.gas, xa.fee, xa.memo, t.tr⟩ ∧ wtX ⟨xa.snd, xa.sq, xa.gas, xa.fee, xa.memo, t.tr⟩ ≤ 1000 + wtX t) := Lib.hid ⟨⟨HGQ.out.b.sq, HGQ.out.b.gas, HGQ.out.b.fee, HTB.out.am, HGQ.out.b.s1, HGQ.out.b.s2, HTB.out.s3⟩, by have h1 := HGQ.out.wt HM13.out.2; unfold wtX at h1 ⊢; dsimp only at h1 ⊢; omega⟩
    have h0 : K20 w g4 g5 g7 g8 xa a1 c1 ⟨xa.snd, xa.sq, xa.gas, xa.fee, xa.memo, t.tr⟩ a c false false V2.drew := ⟨hS.bel.drew, hS.b4, hS.b5, hS.b7, hS.b8, hcsa, hcsb⟩
    clear hS hcsa hcsb
    go_upto_region 20 with fail
    refine wp_region_inv (fun listed act9 V => ∃ b0 b1 b2 b3 : Bool, listed = #[b0, b1, b2, b3] ∧ act9 = { tmps := #[.slice ak L.length ck, .agg (txA t a c), undef, .pointer (some ⟨g3, 0, none⟩), .pointer (some ⟨g4, 0, none⟩), .pointer (some ⟨g5, 0, none⟩), .pointer (some ⟨gs, 0, none⟩), .pointer (some ⟨g7, 0, none⟩), .pointer (some ⟨g8, 0, none⟩), .slice ak L.length ck, .pointer (some ⟨gs, 0, none⟩), .pointer (some ⟨gs, 0, none⟩), .pointer (some ⟨gs, 0, none⟩), .slice ra (List.length A) rc, .agg #[.slice ra (List.length A) rc, .int .u64 0], .agg (txA xa a1 c1), .agg (txA xa a1 c1), .pointer (some ⟨gs, 0, none⟩), .int .i64 (4 : Nat), undef, undef, undef, .bool false, .bool false, undef, undef, undef, .bool false, .bool false, undef, undef, undef, .bool false, .bool false, undef, undef, undef, undef, .bool false, .bool false, undef, undef, undef, .bool true, .bool true, .pointer (some ⟨g3, 5, none⟩), .slice a t.tr.length c, .pointer (some ⟨g8, 5, none⟩), undef, undef, undef, undef, undef, undef, undef, undef, undef, undef, undef, undef, undef, undef, undef, undef, undef, undef, undef, undef, (cond b0 (.agg (txA xa a1 c1)) undef), (cond b1 (.agg (txA ⟨xa.snd, xa.sq, xa.gas, xa.fee, xa.memo, t.tr⟩ a c)) undef)], defers := [] } ∧ K20 w g4 g5 g7 g8 xa a1 c1 ⟨xa.snd, xa.sq, xa.gas, xa.fee, xa.memo, t.tr⟩ a c b2 b3 V) (by kernel_rfl) (by kernel_rfl) ?_ ?_ ?_
    · exact ⟨false, false, false, false, rfl, rfl, h0⟩
    · intro i9 listed act9 V hi9 hr hJ
      obtain ⟨b0, b1, b2, b3, rfl, rfl, hF⟩ := hJ
      have hi2 : i9 < 4 := hi9
      have hi3 : i9 = 0 ∨ i9 = 1 ∨ i9 = 2 ∨ i9 = 3 := by omega
      rcases hi3 with rfl | rfl | rfl | rfl
      · obtain rfl : b0 = false := ready_self hr
        refine st_load rfl (by kernel_rfl) (some 68) rfl 29 (.tmp 7) rfl ⟨g7, 0, none⟩ (.agg (txA xa a1 c1)) (by kernel_rfl) (load_txb hF.b7) ?_
        exact ⟨true, b1, b2, b3, rfl, rfl, hF⟩
      · obtain rfl : b1 = false := ready_self hr
        refine st_load rfl (by kernel_rfl) (some 69) rfl 29 (.tmp 8) rfl ⟨g8, 0, none⟩ (.agg (txA ⟨xa.snd, xa.sq, xa.gas, xa.fee, xa.memo, t.tr⟩ a c)) (by kernel_rfl) (load_txb hF.b8) ?_
        exact ⟨b0, true, b2, b3, rfl, rfl, hF⟩
      · obtain rfl : b2 = false := ready_self hr
        obtain rfl : b0 = true := ready_dep hr 0 (by kernel_rfl)
        obtain ⟨hst, hF2⟩ := hF.s4 HLY.out HNA.out HNB.out
        refine st_storeA rfl (by kernel_rfl) rfl 29 (.tmp 4) (.tmp 68) rfl (.pointer (some ⟨g4, 0, none⟩)) (.agg (txA xa a1 c1)) (by kernel_rfl) (by kernel_rfl) _ hst ?_
        exact ⟨true, b1, true, b3, rfl, rfl, hF2⟩
      · obtain rfl : b3 = false := ready_self hr
        obtain rfl : b1 = true := ready_dep hr 1 (by kernel_rfl)
        obtain ⟨hst, hF2⟩ := hF.s5 HLY.out HNA.out HNB.out
        refine st_storeA rfl (by kernel_rfl) rfl 29 (.tmp 5) (.tmp 69) rfl (.pointer (some ⟨g5, 0, none⟩)) (.agg (txA ⟨xa.snd, xa.sq, xa.gas, xa.fee, xa.memo, t.tr⟩ a c)) (by kernel_rfl) (by kernel_rfl) _ hst ?_
        exact ⟨b0, true, b2, true, rfl, rfl, hF2⟩
    · intro act9 V hJ
      obtain ⟨b0, b1, b2, b3, he, rfl, hF⟩ := hJ
      have he : (#[true, true, true, true] : Array Bool) = #[b0, b1, b2, b3] := he
      simp only [Array.mk.injEq, List.cons.injEq, and_true] at he
      obtain ⟨rfl, rfl, rfl, rfl⟩ := he
      simp only [cond_true]
      have hZ4 : Bx V g4 (txA xa a1 c1) 29 := hF.b4
      have hZ5 : Bx V g5 (txA ⟨xa.snd, xa.sq, xa.gas, xa.fee, xa.memo, t.tr⟩ a c) 29 := hF.b5
      have HE := Lib.hid (⟨xa, ⟨xa.snd, xa.sq, xa.gas, xa.fee, xa.memo, t.tr⟩, a1, c1, a, c, rfl, hF.ca, hF.cb, HGQ.out, HM13.out.1, HM13.out.2, HWX.out.1, HWX.out.2, hF.bel⟩ : MadeO w t (.returned (.tuple #[.agg (txA xa a1 c1), .agg (txA ⟨xa.snd, xa.sq, xa.gas, xa.fee, xa.memo, t.tr⟩ a c)])) V)
      clear hF h0 HWX
      go_wp2_with fail
      exact bodyPost_ret (results_2c (p := 4) (q := 5) rfl (by kernel_rfl) (load_txb hZ4) (by kernel_rfl) (load_txb hZ5)) rfl HE.out
  · skip
    go_upto_region 6 with fail
    apply wp_region_lit
    refine gw_val (by kernel_rfl) (some 23) rfl (.bool false) (eql_n rfl ((5 : Nat)) (0) (decide_eq_false (by decide)) (by kernel_rfl) (by kernel_rfl) _) ?_
    simp only [pu1, pu2, pu3, pu4]
    refine gw_val (by kernel_rfl) (some 22) rfl (.bool false) (by kernel_rfl) ?_
    simp only [pu1, pu2, pu3, pu4]
    apply wpList_nil
    go_upto_region 8 with fail
    apply wp_region_lit
    refine gw_val (by kernel_rfl) (some 28) rfl (.bool false) (eql_n rfl ((5 : Nat)) (1) (decide_eq_false (by decide)) (by kernel_rfl) (by kernel_rfl) _) ?_
    simp only [pu1, pu2, pu3, pu4]
    refine gw_val (by kernel_rfl) (some 27) rfl (.bool false) (by kernel_rfl) ?_
    simp only [pu1, pu2, pu3, pu4]
    apply wpList_nil
    go_upto_region 10 with fail
    apply wp_region_lit
    refine gw_val (by kernel_rfl) (some 33) rfl (.bool false) (eql_n rfl ((5 : Nat)) (2) (decide_eq_false (by decide)) (by kernel_rfl) (by kernel_rfl) _) ?_
    simp only [pu1, pu2, pu3, pu4]
    refine gw_val (by kernel_rfl) (some 32) rfl (.bool false) (by kernel_rfl) ?_
    simp only [pu1, pu2, pu3, pu4]
    apply wpList_nil
    go_upto_region 12 with fail
    apply wp_region_lit
    refine gw_val (by kernel_rfl) (some 39) rfl (.bool false) (eql_n rfl ((5 : Nat)) (3) (decide_eq_false (by decide)) (by kernel_rfl) (by kernel_rfl) _) ?_
    simp only [pu1, pu2, pu3, pu4]
    refine gw_val (by kernel_rfl) (some 38) rfl (.bool false) (by kernel_rfl) ?_
    simp only [pu1, pu2, pu3, pu4]
    apply wpList_nil
    go_upto_region 14 with fail
    apply wp_region_lit
    refine gw_val (by kernel_rfl) (some 44) rfl (.bool false) (eql_n rfl ((5 : Nat)) (4) (decide_eq_false (by decide)) (by kernel_rfl) (by kernel_rfl) _) ?_
    simp only [pu1, pu2, pu3, pu4]
    refine gw_val (by kernel_rfl) (some 43) rfl (.bool false) (by kernel_rfl) ?_
    simp only [pu1, pu2, pu3, pu4]
    apply wpList_nil
    go_upto_region 16 with fail
    apply wp_region_lit
    refine gw_val (by kernel_rfl) (some 49) rfl (.bool true) (eql_n rfl ((5 : Nat)) (5) (decide_eq_true (by decide)) (by kernel_rfl) (by kernel_rfl) _) ?_
    simp only [pu1, pu2, pu3, pu4]
    refine gw_val (by kernel_rfl) (some 48) rfl (.bool true) (by kernel_rfl) ?_
    simp only [pu1, pu2, pu3, pu4]
    apply wpList_nil
    have h0 : K17 w gs g3 g4 g5 g7 g8 ak ck L t a c xa a1 c1 B1 B9 false false false false undef undef undef V.drew := ⟨(fun e => nomatch e), (fun e => nomatch e), (fun e => nomatch e), fun _ => md_drew HM.out, (fun e => nomatch e), (fun e => nomatch e), (fun e => nomatch e), (fun e => nomatch e), HBB.out⟩
    have h0 := And.intro h0 (fun (e : false = true) => e)
    go_upto_region 17 with fail
    refine wp_region_inv (fun listed act9 V => ∃ b0 b1 b2 b3 b4 b5 b6 b7 b8 : Bool, ∃ x50 x53 x56 : Value, listed = #[b0, b1, b2, b3, b4, b5, b6, b7, b8] ∧ act9 = { tmps := #[.slice ak L.length ck, .agg (txA t a c), undef, .pointer (some ⟨g3, 0, none⟩), .pointer (some ⟨g4, 0, none⟩), .pointer (some ⟨g5, 0, none⟩), .pointer (some ⟨gs, 0, none⟩), .pointer (some ⟨g7, 0, none⟩), .pointer (some ⟨g8, 0, none⟩), .slice ak L.length ck, .pointer (some ⟨gs, 0, none⟩), .pointer (some ⟨gs, 0, none⟩), .pointer (some ⟨gs, 0, none⟩), .slice ra (List.length A) rc, .agg #[.slice ra (List.length A) rc, .int .u64 0], .agg (txA xa a1 c1), .agg (txA xa a1 c1), .pointer (some ⟨gs, 0, none⟩), .int .i64 (5 : Nat), undef, undef, undef, .bool false, .bool false, undef, undef, undef, .bool false, .bool false, undef, undef, undef, .bool false, .bool false, undef, undef, undef, undef, .bool false, .bool false, undef, undef, undef, .bool false, .bool false, undef, undef, undef, .bool true, .bool true, x50, (cond b1 (.pointer (some ⟨g8, 5, none⟩)) undef), (cond b2 (.slice a1 xa.tr.length c1) undef), x53, (cond b4 (.pointer (some ⟨g3, 5, none⟩)) undef), (cond b5 (.slice a t.tr.length c) undef), x56, (cond b7 (.pointer (some ⟨g8, 5, none⟩)) undef), undef, undef, undef, undef, undef, undef, undef, undef, undef, undef, undef, undef], defers := [] } ∧ (K17 w gs g3 g4 g5 g7 g8 ak ck L t a c xa a1 c1 B1 B9 b0 b3 b6 b8 x50 x53 x56 V ∧ (b3 = true → b2 = true))) (by kernel_rfl) (by kernel_rfl) ?_ ?_ ?_
    · exact ⟨false, false, false, false, false, false, false, false, false, undef, undef, undef, rfl, rfl, h0⟩
    · intro i9 listed act9 V hi9 hr hJ
      obtain ⟨b0, b1, b2, b3, b4, b5, b6, b7, b8, x50, x53, x56, rfl, rfl, hF⟩ := hJ
      have hi2 : i9 < 9 := hi9
      have hi3 : i9 = 0 ∨ i9 = 1 ∨ i9 = 2 ∨ i9 = 3 ∨ i9 = 4 ∨ i9 = 5 ∨ i9 = 6 ∨ i9 = 7 ∨ i9 = 8 := by omega
      rcases hi3 with rfl | rfl | rfl | rfl | rfl | rfl | rfl | rfl | rfl
      · obtain rfl : b0 = false := ready_self hr
        refine st_build rfl (by kernel_rfl) (some 50) rfl 27 0 #[] rfl #[] (by kernel_rfl) (.slice (some ⟨V.heap.size, 0, none⟩) 0 0) _ (nil_tf V) ?_
        exact ⟨true, b1, b2, b3, b4, b5, b6, b7, b8, _, x53, x56, rfl, rfl, hF.1.s0, hF.2⟩
      · obtain rfl : b1 = false := ready_self hr
        refine st_val rfl (by kernel_rfl) (some 51) rfl (.pointer (some ⟨g8, 5, none⟩)) V (by kernel_rfl) ?_
        exact ⟨b0, true, b2, b3, b4, b5, b6, b7, b8, x50, x53, x56, rfl, rfl, hF.1, hF.2⟩
      · obtain rfl : b2 = false := ready_self hr
        obtain rfl : b1 = true := ready_dep hr 1 (by kernel_rfl)
        have h8 : b8 = false := by cases b8 with | false => rfl | true => exact (nomatch hF.2 (hF.1.o6 (hF.1.o8 rfl)))
        subst h8
        refine st_load rfl (by kernel_rfl) (some 52) rfl 27 (.tmp 51) rfl ⟨g8, 5, none⟩ (.slice a1 xa.tr.length c1) (by kernel_rfl) ((hF.1.m0 rfl).b8.load (i := 5) rfl (by kernel_rfl)) ?_
        exact ⟨b0, true, true, b3, b4, b5, b6, b7, false, x50, x53, x56, rfl, rfl, hF.1, fun _ => rfl⟩
      · obtain rfl : b3 = false := ready_self hr
        obtain rfl : b0 = true := ready_dep hr 0 (by kernel_rfl)
        obtain rfl : b2 = true := ready_dep hr 2 (by kernel_rfl)
        obtain ⟨v, V2, hap, hF2⟩ := hF.1.s3 HLY.out HBS.out HKB.out (fun q e => Nat.lt_trans (HOL.out q e) HLB.out) HM13.out.2
        refine st_append rfl (by kernel_rfl) (some 53) rfl 27 rfl (.tmp 50) (.tmp 52) 27 rfl x50 (.slice a1 xa.tr.length c1) v V2 (by kernel_rfl) (by kernel_rfl) hap ?_
        exact ⟨true, b1, true, true, b4, b5, b6, b7, b8, x50, v, x56, rfl, rfl, hF2, fun _ => rfl⟩
      · obtain rfl : b4 = false := ready_self hr
        refine st_val rfl (by kernel_rfl) (some 54) rfl (.pointer (some ⟨g3, 5, none⟩)) V (by kernel_rfl) ?_
        exact ⟨b0, b1, b2, b3, true, b5, b6, b7, b8, x50, x53, x56, rfl, rfl, hF.1, hF.2⟩
      · obtain rfl : b5 = false := ready_self hr
        obtain rfl : b4 = true := ready_dep hr 4 (by kernel_rfl)
        have hx3 : Bx V g3 (txA t a c) 29 := by cases b8 with | false => exact (hF.1.m0 rfl).b3 | true => obtain ⟨a9, c9, -, hm9⟩ := hF.1.m1 rfl; exact hm9.b3
        refine st_load rfl (by kernel_rfl) (some 55) rfl 27 (.tmp 54) rfl ⟨g3, 5, none⟩ (.slice a t.tr.length c) (by kernel_rfl) (hx3.load (i := 5) rfl (by kernel_rfl)) ?_
        exact ⟨b0, b1, b2, b3, true, true, b6, b7, b8, x50, x53, x56, rfl, rfl, hF.1, hF.2⟩
      · obtain rfl : b6 = false := ready_self hr
        obtain rfl : b3 = true := ready_dep hr 3 (by kernel_rfl)
        obtain rfl : b5 = true := ready_dep hr 5 (by kernel_rfl)
        obtain ⟨v, V2, hap, hF2⟩ := hF.1.s6 HLY.out HBS.out HKB.out (fun q e => Nat.lt_trans (HOL.out q e) HLB.out) HM13.out.2 HCT.out HTZ.out
        refine st_append rfl (by kernel_rfl) (some 56) rfl 27 rfl (.tmp 53) (.tmp 55) 27 rfl x53 (.slice a t.tr.length c) v V2 (by kernel_rfl) (by kernel_rfl) hap ?_
        exact ⟨b0, b1, b2, true, b4, true, true, b7, b8, x50, x53, v, rfl, rfl, hF2, hF.2⟩
      · obtain rfl : b7 = false := ready_self hr
        refine st_val rfl (by kernel_rfl) (some 57) rfl (.pointer (some ⟨g8, 5, none⟩)) V (by kernel_rfl) ?_
        exact ⟨b0, b1, b2, b3, b4, b5, b6, true, b8, x50, x53, x56, rfl, rfl, hF.1, hF.2⟩
      · obtain rfl : b8 = false := ready_self hr
        obtain rfl : b7 = true := ready_dep hr 7 (by kernel_rfl)
        obtain rfl : b6 = true := ready_dep hr 6 (by kernel_rfl)
        obtain ⟨a9, c9, V2, rfl, hst, hF2⟩ := hF.1.s8 HLY.out HKB.out HOL.out
        refine st_storeA rfl (by kernel_rfl) rfl 27 (.tmp 57) (.tmp 56) rfl (.pointer (some ⟨g8, 5, none⟩)) (.slice a9 (xa.tr ++ t.tr).length c9) (by kernel_rfl) (by kernel_rfl) _ hst ?_
        exact ⟨b0, b1, b2, b3, b4, b5, true, true, true, x50, x53, _, rfl, rfl, hF2, hF.2⟩
    · intro act9 V hJ
      obtain ⟨b0, b1, b2, b3, b4, b5, b6, b7, b8, x50, x53, x56, he, rfl, hF⟩ := hJ
      have he : (#[true, true, true, true, true, true, true, true, true] : Array Bool) = #[b0, b1, b2, b3, b4, b5, b6, b7, b8] := he
      simp only [Array.mk.injEq, List.cons.injEq, and_true] at he
      obtain ⟨rfl, rfl, rfl, rfl, rfl, rfl, rfl, rfl, rfl⟩ := he
      simp only [cond_true]
      obtain ⟨a2, c2, hrw, hmd⟩ := hF.1.m1 rfl
      have HM2 := Lib.hid hmd
      have hge := row_ge hrw
      obtain ⟨ar, cr, er, hcr, -⟩ := hrw.cs
      simp only [Value.slice.injEq, true_and] at er
      obtain ⟨rfl, rfl⟩ := er
      clear hF h0 hmd hrw
      have hS := HM2.out
      have hcsb : Cs V a2 (tfc (⟨xa.snd, xa.sq, xa.gas, xa.fee, xa.memo, xa.tr ++ t.tr⟩ : Txd).tr) := hcr
      have HNB : Hid (Nea g4 g5 ⟨xa.snd, xa.sq, xa.gas, xa.fee, xa.memo, xa.tr ++ t.tr⟩ a2) := Lib.hid (fun hn y hy => by have h1 := hge y hy; have h2 := HLY.out.l4; have h3 := HLY.out.l5; exact ⟨by omega, by omega⟩)
      obtain ⟨ar, cr, er, hcsa, -⟩ := hS.r1.cs
      simp only [Value.slice.injEq, true_and] at er
      obtain ⟨rfl, rfl⟩ := er
      have HWX : Hid (TxB ⟨xa.snd, xa.sq, xa.gas, xa.fee, xa.memo, xa.tr ++ t.tr⟩ ∧ wtX ⟨xa.snd, xa.sq, xa.gas, xa.fee, xa.memo, xa.tr ++ t.tr⟩ ≤ 1000 + wtX t) := Lib.hid ⟨⟨HGQ.out.b.sq, HGQ.out.b.gas, HGQ.out.b.fee, (fun y hy => by rcases List.mem_append.1 hy with h9 | h9; exact HGQ.out.b.am y h9; exact HTB.out.am y h9), HGQ.out.b.s1, HGQ.out.b.s2, (fun y hy => by rcases List.mem_append.1 hy with h9 | h9; exact HGQ.out.b.s3 y h9; exact HTB.out.s3 y h9)⟩, by have h1 := HGQ.out.wt HM13.out.2; unfold wtX at h1 ⊢; dsimp only at h1 ⊢; rw [trW_app]; omega⟩
      have h0 : K20 w g4 g5 g7 g8 xa a1 c1 ⟨xa.snd, xa.sq, xa.gas, xa.fee, xa.memo, xa.tr ++ t.tr⟩ a2 c2 false false V.drew := ⟨hS.bel.drew, hS.b4, hS.b5, hS.b7, hS.b8, hcsa, hcsb⟩
      clear hS hcsa hcsb
      go_upto_region 20 with fail
      refine wp_region_inv (fun listed act9 V => ∃ b0 b1 b2 b3 : Bool, listed = #[b0, b1, b2, b3] ∧ act9 = { tmps := #[.slice ak L.length ck, .agg (txA t a c), undef, .pointer (some ⟨g3, 0, none⟩), .pointer (some ⟨g4, 0, none⟩), .pointer (some ⟨g5, 0, none⟩), .pointer (some ⟨gs, 0, none⟩), .pointer (some ⟨g7, 0, none⟩), .pointer (some ⟨g8, 0, none⟩), .slice ak L.length ck, .pointer (some ⟨gs, 0, none⟩), .pointer (some ⟨gs, 0, none⟩), .pointer (some ⟨gs, 0, none⟩), .slice ra (List.length A) rc, .agg #[.slice ra (List.length A) rc, .int .u64 0], .agg (txA xa a1 c1), .agg (txA xa a1 c1), .pointer (some ⟨gs, 0, none⟩), .int .i64 (5 : Nat), undef, undef, undef, .bool false, .bool false, undef, undef, undef, .bool false, .bool false, undef, undef, undef, .bool false, .bool false, undef, undef, undef, undef, .bool false, .bool false, undef, undef, undef, .bool false, .bool false, undef, undef, undef, .bool true, .bool true, x50, .pointer (some ⟨g8, 5, none⟩), .slice a1 xa.tr.length c1, x53, .pointer (some ⟨g3, 5, none⟩), .slice a t.tr.length c, x56, .pointer (some ⟨g8, 5, none⟩), undef, undef, undef, undef, undef, undef, undef, undef, undef, undef, (cond b0 (.agg (txA xa a1 c1)) undef), (cond b1 (.agg (txA ⟨xa.snd, xa.sq, xa.gas, xa.fee, xa.memo, xa.tr ++ t.tr⟩ a2 c2)) undef)], defers := [] } ∧ K20 w g4 g5 g7 g8 xa a1 c1 ⟨xa.snd, xa.sq, xa.gas, xa.fee, xa.memo, xa.tr ++ t.tr⟩ a2 c2 b2 b3 V) (by kernel_rfl) (by kernel_rfl) ?_ ?_ ?_
      · exact ⟨false, false, false, false, rfl, rfl, h0⟩
      · intro i9 listed act9 V hi9 hr hJ
        obtain ⟨b0, b1, b2, b3, rfl, rfl, hF⟩ := hJ
        have hi2 : i9 < 4 := hi9
        have hi3 : i9 = 0 ∨ i9 = 1 ∨ i9 = 2 ∨ i9 = 3 := by omega
        rcases hi3 with rfl | rfl | rfl | rfl
        · obtain rfl : b0 = false := ready_self hr
          refine st_load rfl (by kernel_rfl) (some 68) rfl 29 (.tmp 7) rfl ⟨g7, 0, none⟩ (.agg (txA xa a1 c1)) (by kernel_rfl) (load_txb hF.b7) ?_
          exact ⟨true, b1, b2, b3, rfl, rfl, hF⟩
        · obtain rfl : b1 = false := ready_self hr
          refine st_load rfl (by kernel_rfl) (some 69) rfl 29 (.tmp 8) rfl ⟨g8, 0, none⟩ (.agg (txA ⟨xa.snd, xa.sq, xa.gas, xa.fee, xa.memo, xa.tr ++ t.tr⟩ a2 c2)) (by kernel_rfl) (load_txb hF.b8) ?_
          exact ⟨b0, true, b2, b3, rfl, rfl, hF⟩
        · obtain rfl : b2 = false := ready_self hr
          obtain rfl : b0 = true := ready_dep hr 0 (by kernel_rfl)
          obtain ⟨hst, hF2⟩ := hF.s4 HLY.out HNA.out HNB.out
          refine st_storeA rfl (by kernel_rfl) rfl 29 (.tmp 4) (.tmp 68) rfl (.pointer (some ⟨g4, 0, none⟩)) (.agg (txA xa a1 c1)) (by kernel_rfl) (by kernel_rfl) _ hst ?_
          exact ⟨true, b1, true, b3, rfl, rfl, hF2⟩
        · obtain rfl : b3 = false := ready_self hr
          obtain rfl : b1 = true := ready_dep hr 1 (by kernel_rfl)
          obtain ⟨hst, hF2⟩ := hF.s5 HLY.out HNA.out HNB.out
          refine st_storeA rfl (by kernel_rfl) rfl 29 (.tmp 5) (.tmp 69) rfl (.pointer (some ⟨g5, 0, none⟩)) (.agg (txA ⟨xa.snd, xa.sq, xa.gas, xa.fee, xa.memo, xa.tr ++ t.tr⟩ a2 c2)) (by kernel_rfl) (by kernel_rfl) _ hst ?_
          exact ⟨b0, true, b2, true, rfl, rfl, hF2⟩
      · intro act9 V hJ
        obtain ⟨b0, b1, b2, b3, he, rfl, hF⟩ := hJ
        have he : (#[true, true, true, true] : Array Bool) = #[b0, b1, b2, b3] := he
        simp only [Array.mk.injEq, List.cons.injEq, and_true] at he
        obtain ⟨rfl, rfl, rfl, rfl⟩ := he
        simp only [cond_true]
        have hZ4 : Bx V g4 (txA xa a1 c1) 29 := hF.b4
        have hZ5 : Bx V g5 (txA ⟨xa.snd, xa.sq, xa.gas, xa.fee, xa.memo, xa.tr ++ t.tr⟩ a2 c2) 29 := hF.b5
        have HE := Lib.hid (⟨xa, ⟨xa.snd, xa.sq, xa.gas, xa.fee, xa.memo, xa.tr ++ t.tr⟩, a1, c1, a2, c2, rfl, hF.ca, hF.cb, HGQ.out, HM13.out.1, HM13.out.2, HWX.out.1, HWX.out.2, hF.bel⟩ : MadeO w t (.returned (.tuple #[.agg (txA xa a1 c1), .agg (txA ⟨xa.snd, xa.sq, xa.gas, xa.fee, xa.memo, xa.tr ++ t.tr⟩ a2 c2)])) V)
        clear hF h0 HWX
        go_wp2_with fail
        exact bodyPost_ret (results_2c (p := 4) (q := 5) rfl (by kernel_rfl) (load_txb hZ4) (by kernel_rfl) (load_txb hZ5)) rfl HE.out
  · skip
    go_upto_region 6 with fail
    apply wp_region_lit
    refine gw_val (by kernel_rfl) (some 23) rfl (.bool false) (eql_n rfl ((6 : Nat)) (0) (decide_eq_false (by decide)) (by kernel_rfl) (by kernel_rfl) _) ?_
    simp only [pu1, pu2, pu3, pu4]
    refine gw_val (by kernel_rfl) (some 22) rfl (.bool false) (by kernel_rfl) ?_
    simp only [pu1, pu2, pu3, pu4]
    apply wpList_nil
    go_upto_region 8 with fail
    apply wp_region_lit
    refine gw_val (by kernel_rfl) (some 28) rfl (.bool false) (eql_n rfl ((6 : Nat)) (1) (decide_eq_false (by decide)) (by kernel_rfl) (by kernel_rfl) _) ?_
    simp only [pu1, pu2, pu3, pu4]
    refine gw_val (by kernel_rfl) (some 27) rfl (.bool false) (by kernel_rfl) ?_
    simp only [pu1, pu2, pu3, pu4]
    apply wpList_nil
    go_upto_region 10 with fail
    apply wp_region_lit
    refine gw_val (by kernel_rfl) (some 33) rfl (.bool false) (eql_n rfl ((6 : Nat)) (2) (decide_eq_false (by decide)) (by kernel_rfl) (by kernel_rfl) _) ?_
    simp only [pu1, pu2, pu3, pu4]
    refine gw_val (by kernel_rfl) (some 32) rfl (.bool false) (by kernel_rfl) ?_
    simp only [pu1, pu2, pu3, pu4]
    apply wpList_nil
    go_upto_region 12 with fail
    apply wp_region_lit
    refine gw_val (by kernel_rfl) (some 39) rfl (.bool false) (eql_n rfl ((6 : Nat)) (3) (decide_eq_false (by decide)) (by kernel_rfl) (by kernel_rfl) _) ?_
    simp only [pu1, pu2, pu3, pu4]
    refine gw_val (by kernel_rfl) (some 38) rfl (.bool false) (by kernel_rfl) ?_
    simp only [pu1, pu2, pu3, pu4]
    apply wpList_nil
    go_upto_region 14 with fail
    apply wp_region_lit
    refine gw_val (by kernel_rfl) (some 44) rfl (.bool false) (eql_n rfl ((6 : Nat)) (4) (decide_eq_false (by decide)) (by kernel_rfl) (by kernel_rfl) _) ?_
    simp only [pu1, pu2, pu3, pu4]
    refine gw_val (by kernel_rfl) (some 43) rfl (.bool false) (by kernel_rfl) ?_
    simp only [pu1, pu2, pu3, pu4]
    apply wpList_nil
    go_upto_region 16 with fail
    apply wp_region_lit
    refine gw_val (by kernel_rfl) (some 49) rfl (.bool false) (eql_n rfl ((6 : Nat)) (5) (decide_eq_false (by decide)) (by kernel_rfl) (by kernel_rfl) _) ?_
    simp only [pu1, pu2, pu3, pu4]
    refine gw_val (by kernel_rfl) (some 48) rfl (.bool false) (by kernel_rfl) ?_
    simp only [pu1, pu2, pu3, pu4]
    apply wpList_nil
    go_upto_region 18 with fail
    apply wp_region_lit
    refine gw_val (by kernel_rfl) (some 59) rfl (.bool true) (eql_n rfl ((6 : Nat)) (6) (decide_eq_true (by decide)) (by kernel_rfl) (by kernel_rfl) _) ?_
    simp only [pu1, pu2, pu3, pu4]
    refine gw_val (by kernel_rfl) (some 58) rfl (.bool true) (by kernel_rfl) ?_
    simp only [pu1, pu2, pu3, pu4]
    apply wpList_nil
    have hb1 : Below V.heap.size V (V.alloc (.cells #[] 58)) := (Below.refl _ V).alloc (Nat.le_refl _) _
    have hnl := nil_tf V
    have hM1 := HM.out.below hb1
    have hr1 : RowT (V.alloc (.cells #[] 58)) B9 (.slice (some ⟨V.heap.size, 0, none⟩) 0 0) [] := (nil_row V).base HBB.out
    have hs1 : B9 ≤ (V.alloc (.cells #[] 58)).heap.size := Nat.le_trans HBB.out hb1.size
    generalize V.alloc (.cells #[] 58) = U1 at *
    obtain ⟨ar, cr, er, hcr, -⟩ := hM1.r1.cs
    simp only [Value.slice.injEq, true_and] at er
    obtain ⟨rfl, rfl⟩ := er
    obtain ⟨a6, c6, U2, hap2, hr2, hb2⟩ := grow_tfs hr1 hs1 a1 c1 hcr (by have := HM13.out.2; simp only [List.length_nil]; omega)
    rw [List.nil_append] at hap2 hr2
    have hM2 := hM1.far HLY.out HBS.out HKB.out (fun q e => Nat.lt_trans (HOL.out q e) HLB.out) hb2
    have hs2 : B9 ≤ U2.heap.size := Nat.le_trans hs1 hb2.size
    have hbd := build_tf (annS, (0 : Int)) U2
    obtain ⟨a7, c7, U3, hap3, hr3, hb3⟩ := grow_tf hr2 hs2 (annS, (0 : Int)) (by have := HM13.out.2; omega)
    have HM3 := Lib.hid (hM2.far HLY.out HBS.out HKB.out (fun q e => Nat.lt_trans (HOL.out q e) HLB.out) hb3)
    have hM8 := hM1.b8
    clear hM1 hr1 hb1 hs1 hcr hM2 hb2 hr2 hs2 hb3
    obtain ⟨V2, hst2, hX2, -, hbt2⟩ := st_cell (i := 5) (ty := 27) (v := .slice a7 (xa.tr ++ [(annS, (0 : Int))]).length c7) (cs' := txA ⟨xa.snd, xa.sq, xa.gas, xa.fee, xa.memo, xa.tr ++ [(annS, (0 : Int))]⟩ a7 c7) (w0 := U3) (B := g8) HM3.out.b8 (Below.refl _ _) (Nat.le_refl _) (by show 5 < 6; decide) rfl (by kernel_rfl) rfl
    have HM2 := Lib.hid (HM3.out.set HLY.out HKB.out HOL.out hbt2 hX2)
    have hrw := hr3.but hbt2 HLY.out.l8
    have hge := row_ge hrw
    obtain ⟨ar, cr, er, hcr, -⟩ := hrw.cs
    simp only [Value.slice.injEq, true_and] at er
    obtain ⟨rfl, rfl⟩ := er
    clear hrw hr3 hX2 hbt2 HM3
    go_upto_region 19 with fail
    apply wp_region_lit
    refine gw_build (by kernel_rfl) (some 60) rfl 27 0 #[] rfl #[] (by kernel_rfl) (.slice (some ⟨V.heap.size, 0, none⟩) 0 0) _ hnl ?_
    simp only [pu1, pu2, pu3, pu4]
    refine gw_val (by kernel_rfl) (some 61) rfl (.pointer (some ⟨g8, 5, none⟩)) (by kernel_rfl) ?_
    simp only [pu1, pu2, pu3, pu4]
    refine gw_load (by kernel_rfl) (some 62) rfl 27 (.tmp 61) rfl ⟨g8, 5, none⟩ (.slice a1 xa.tr.length c1) (by kernel_rfl) (hM8.load (i := 5) rfl (by kernel_rfl)) ?_
    simp only [pu1, pu2, pu3, pu4]
    refine append_step rfl (some 63) rfl 27 rfl (.tmp 60) (.tmp 62) 27 rfl (.slice (some ⟨V.heap.size, 0, none⟩) 0 0) (.slice a1 xa.tr.length c1) (.slice a6 xa.tr.length c6) U2 (by kernel_rfl) (by kernel_rfl) hap2 ?_
    simp only [pu1, pu2, pu3, pu4]
    refine gw_val (by kernel_rfl) (some 64) rfl (.agg (tfA (annS, (0 : Int)))) (by kernel_rfl) ?_
    simp only [pu1, pu2, pu3, pu4]
    refine gw_build (by kernel_rfl) (some 65) rfl 27 1 #[(0, .tmp 64)] rfl #[(0, .agg (tfA (annS, (0 : Int))))] (by kernel_rfl) (.slice (some ⟨U2.heap.size, 0, none⟩) 1 1) _ hbd ?_
    simp only [pu1, pu2, pu3, pu4]
    refine append_step rfl (some 66) rfl 27 rfl (.tmp 63) (.tmp 65) 27 rfl (.slice a6 xa.tr.length c6) (.slice (some ⟨U2.heap.size, 0, none⟩) 1 1) (.slice a7 (xa.tr ++ [(annS, (0 : Int))]).length c7) U3 (by kernel_rfl) (by kernel_rfl) hap3 ?_
    simp only [pu1, pu2, pu3, pu4]
    refine gw_val (by kernel_rfl) (some 67) rfl (.pointer (some ⟨g8, 5, none⟩)) (by kernel_rfl) ?_
    simp only [pu1, pu2, pu3, pu4]
    refine gw_store (by kernel_rfl) rfl 27 (.tmp 67) (.tmp 66) rfl (.pointer (some ⟨g8, 5, none⟩)) (.slice a7 (xa.tr ++ [(annS, (0 : Int))]).length c7) (by kernel_rfl) (by kernel_rfl) (V2) (hst2) ?_
    apply wpList_nil
    clear hst2 hap2 hap3 hbd hnl hM8
    generalize V.heap.size = gv at *
    have hS := HM2.out
    have hcsb : Cs V2 a7 (tfc (⟨xa.snd, xa.sq, xa.gas, xa.fee, xa.memo, xa.tr ++ [(annS, (0 : Int))]⟩ : Txd).tr) := hcr
    have HNB : Hid (Nea g4 g5 ⟨xa.snd, xa.sq, xa.gas, xa.fee, xa.memo, xa.tr ++ [(annS, (0 : Int))]⟩ a7) := Lib.hid (fun hn y hy => by have h1 := hge y hy; have h2 := HLY.out.l4; have h3 := HLY.out.l5; exact ⟨by omega, by omega⟩)
    obtain ⟨ar, cr, er, hcsa, -⟩ := hS.r1.cs
    simp only [Value.slice.injEq, true_and] at er
    obtain ⟨rfl, rfl⟩ := er
    have HWX : Hid (TxB ⟨xa.snd, xa.sq, xa.gas, xa.fee, xa.memo, xa.tr ++ [(annS, (0 : Int))]⟩ ∧ wtX ⟨xa.snd, xa.sq, xa.gas, xa.fee, xa.memo, xa.tr ++ [(annS, (0 : Int))]⟩ ≤ 1000 + wtX t) := Lib.hid ⟨⟨HGQ.out.b.sq, HGQ.out.b.gas, HGQ.out.b.fee, (fun y hy => by rcases List.mem_append.1 hy with h9 | h9; exact HGQ.out.b.am y h9; rw [List.mem_singleton] at h9; subst h9; exact w64_0), HGQ.out.b.s1, HGQ.out.b.s2, (fun y hy => by rcases List.mem_append.1 hy with h9 | h9; exact HGQ.out.b.s3 y h9; rw [List.mem_singleton] at h9; subst h9; show 3 ≤ _; decide)⟩, by have h1 := HGQ.out.wt HM13.out.2; have h2 : trW [(annS, (0 : Int))] = 63 := rfl; unfold wtX at h1 ⊢; dsimp only at h1 ⊢; rw [trW_app, h2]; omega⟩
    have h0 : K20 w g4 g5 g7 g8 xa a1 c1 ⟨xa.snd, xa.sq, xa.gas, xa.fee, xa.memo, xa.tr ++ [(annS, (0 : Int))]⟩ a7 c7 false false V2.drew := ⟨hS.bel.drew, hS.b4, hS.b5, hS.b7, hS.b8, hcsa, hcsb⟩
    clear hS hcsa hcsb
    go_upto_region 20 with fail
    refine wp_region_inv (fun listed act9 V => ∃ b0 b1 b2 b3 : Bool, listed = #[b0, b1, b2, b3] ∧ act9 = { tmps := #[.slice ak L.length ck, .agg (txA t a c), undef, .pointer (some ⟨g3, 0, none⟩), .pointer (some ⟨g4, 0, none⟩), .pointer (some ⟨g5, 0, none⟩), .pointer (some ⟨gs, 0, none⟩), .pointer (some ⟨g7, 0, none⟩), .pointer (some ⟨g8, 0, none⟩), .slice ak L.length ck, .pointer (some ⟨gs, 0, none⟩), .pointer (some ⟨gs, 0, none⟩), .pointer (some ⟨gs, 0, none⟩), .slice ra (List.length A) rc, .agg #[.slice ra (List.length A) rc, .int .u64 0], .agg (txA xa a1 c1), .agg (txA xa a1 c1), .pointer (some ⟨gs, 0, none⟩), .int .i64 (6 : Nat), undef, undef, undef, .bool false, .bool false, undef, undef, undef, .bool false, .bool false, undef, undef, undef, .bool false, .bool false, undef, undef, undef, undef, .bool false, .bool false, undef, undef, undef, .bool false, .bool false, undef, undef, undef, .bool false, .bool false, undef, undef, undef, undef, undef, undef, undef, undef, .bool true, .bool true, .slice (some ⟨gv, 0, none⟩) 0 0, .pointer (some ⟨g8, 5, none⟩), .slice a1 xa.tr.length c1, .slice a6 xa.tr.length c6, .agg (tfA (annS, (0 : Int))), .slice (some ⟨U2.heap.size, 0, none⟩) 1 1, .slice a7 (xa.tr ++ [(annS, (0 : Int))]).length c7, .pointer (some ⟨g8, 5, none⟩), (cond b0 (.agg (txA xa a1 c1)) undef), (cond b1 (.agg (txA ⟨xa.snd, xa.sq, xa.gas, xa.fee, xa.memo, xa.tr ++ [(annS, (0 : Int))]⟩ a7 c7)) undef)], defers := [] } ∧ K20 w g4 g5 g7 g8 xa a1 c1 ⟨xa.snd, xa.sq, xa.gas, xa.fee, xa.memo, xa.tr ++ [(annS, (0 : Int))]⟩ a7 c7 b2 b3 V) (by kernel_rfl) (by kernel_rfl) ?_ ?_ ?_
    · exact ⟨false, false, false, false, rfl, rfl, h0⟩
    · intro i9 listed act9 V hi9 hr hJ
      obtain ⟨b0, b1, b2, b3, rfl, rfl, hF⟩ := hJ
      have hi2 : i9 < 4 := hi9
      have hi3 : i9 = 0 ∨ i9 = 1 ∨ i9 = 2 ∨ i9 = 3 := by omega
      rcases hi3 with rfl | rfl | rfl | rfl
      · obtain rfl : b0 = false := ready_self hr
        refine st_load rfl (by kernel_rfl) (some 68) rfl 29 (.tmp 7) rfl ⟨g7, 0, none⟩ (.agg (txA xa a1 c1)) (by kernel_rfl) (load_txb hF.b7) ?_
        exact ⟨true, b1, b2, b3, rfl, rfl, hF⟩
      · obtain rfl : b1 = false := ready_self hr
        refine st_load rfl (by kernel_rfl) (some 69) rfl 29 (.tmp 8) rfl ⟨g8, 0, none⟩ (.agg (txA ⟨xa.snd, xa.sq, xa.gas, xa.fee, xa.memo, xa.tr ++ [(annS, (0 : Int))]⟩ a7 c7)) (by kernel_rfl) (load_txb hF.b8) ?_
        exact ⟨b0, true, b2, b3, rfl, rfl, hF⟩
      · obtain rfl : b2 = false := ready_self hr
        obtain rfl : b0 = true := ready_dep hr 0 (by kernel_rfl)
        obtain ⟨hst, hF2⟩ := hF.s4 HLY.out HNA.out HNB.out
        refine st_storeA rfl (by kernel_rfl) rfl 29 (.tmp 4) (.tmp 68) rfl (.pointer (some ⟨g4, 0, none⟩)) (.agg (txA xa a1 c1)) (by kernel_rfl) (by kernel_rfl) _ hst ?_
        exact ⟨true, b1, true, b3, rfl, rfl, hF2⟩
      · obtain rfl : b3 = false := ready_self hr
        obtain rfl : b1 = true := ready_dep hr 1 (by kernel_rfl)
        obtain ⟨hst, hF2⟩ := hF.s5 HLY.out HNA.out HNB.out
        refine st_storeA rfl (by kernel_rfl) rfl 29 (.tmp 5) (.tmp 69) rfl (.pointer (some ⟨g5, 0, none⟩)) (.agg (txA ⟨xa.snd, xa.sq, xa.gas, xa.fee, xa.memo, xa.tr ++ [(annS, (0 : Int))]⟩ a7 c7)) (by kernel_rfl) (by kernel_rfl) _ hst ?_
        exact ⟨b0, true, b2, true, rfl, rfl, hF2⟩
    · intro act9 V hJ
      obtain ⟨b0, b1, b2, b3, he, rfl, hF⟩ := hJ
      have he : (#[true, true, true, true] : Array Bool) = #[b0, b1, b2, b3] := he
      simp only [Array.mk.injEq, List.cons.injEq, and_true] at he
      obtain ⟨rfl, rfl, rfl, rfl⟩ := he
      simp only [cond_true]
      have hZ4 : Bx V g4 (txA xa a1 c1) 29 := hF.b4
      have hZ5 : Bx V g5 (txA ⟨xa.snd, xa.sq, xa.gas, xa.fee, xa.memo, xa.tr ++ [(annS, (0 : Int))]⟩ a7 c7) 29 := hF.b5
      have HE := Lib.hid (⟨xa, ⟨xa.snd, xa.sq, xa.gas, xa.fee, xa.memo, xa.tr ++ [(annS, (0 : Int))]⟩, a1, c1, a7, c7, rfl, hF.ca, hF.cb, HGQ.out, HM13.out.1, HM13.out.2, HWX.out.1, HWX.out.2, hF.bel⟩ : MadeO w t (.returned (.tuple #[.agg (txA xa a1 c1), .agg (txA ⟨xa.snd, xa.sq, xa.gas, xa.fee, xa.memo, xa.tr ++ [(annS, (0 : Int))]⟩ a7 c7)])) V)
      clear hF h0 HWX
      go_wp2_with fail
      exact bodyPost_ret (results_2c (p := 4) (q := 5) rfl (by kernel_rfl) (load_txb hZ4) (by kernel_rfl) (load_txb hZ5)) rfl HE.out
  · skip
    go_upto_region 6 with fail
    apply wp_region_lit
    refine gw_val (by kernel_rfl) (some 23) rfl (.bool false) (eql_n rfl ((7 : Nat)) (0) (decide_eq_false (by decide)) (by kernel_rfl) (by kernel_rfl) _) ?_
    simp only [pu1, pu2, pu3, pu4]
    refine gw_val (by kernel_rfl) (some 22) rfl (.bool false) (by kernel_rfl) ?_
    simp only [pu1, pu2, pu3, pu4]
    apply wpList_nil
    go_upto_region 8 with fail
    apply wp_region_lit
    refine gw_val (by kernel_rfl) (some 28) rfl (.bool false) (eql_n rfl ((7 : Nat)) (1) (decide_eq_false (by decide)) (by kernel_rfl) (by kernel_rfl) _) ?_
    simp only [pu1, pu2, pu3, pu4]
    refine gw_val (by kernel_rfl) (some 27) rfl (.bool false) (by kernel_rfl) ?_
    simp only [pu1, pu2, pu3, pu4]
    apply wpList_nil
    go_upto_region 10 with fail
    apply wp_region_lit
    refine gw_val (by kernel_rfl) (some 33) rfl (.bool false) (eql_n rfl ((7 : Nat)) (2) (decide_eq_false (by decide)) (by kernel_rfl) (by kernel_rfl) _) ?_
    simp only [pu1, pu2, pu3, pu4]
    refine gw_val (by kernel_rfl) (some 32) rfl (.bool false) (by kernel_rfl) ?_
    simp only [pu1, pu2, pu3, pu4]
    apply wpList_nil
    go_upto_region 12 with fail
    apply wp_region_lit
    refine gw_val (by kernel_rfl) (some 39) rfl (.bool false) (eql_n rfl ((7 : Nat)) (3) (decide_eq_false (by decide)) (by kernel_rfl) (by kernel_rfl) _) ?_
    simp only [pu1, pu2, pu3, pu4]
    refine gw_val (by kernel_rfl) (some 38) rfl (.bool false) (by kernel_rfl) ?_
    simp only [pu1, pu2, pu3, pu4]
    apply wpList_nil
    go_upto_region 14 with fail
    apply wp_region_lit
    refine gw_val (by kernel_rfl) (some 44) rfl (.bool false) (eql_n rfl ((7 : Nat)) (4) (decide_eq_false (by decide)) (by kernel_rfl) (by kernel_rfl) _) ?_
    simp only [pu1, pu2, pu3, pu4]
    refine gw_val (by kernel_rfl) (some 43) rfl (.bool false) (by kernel_rfl) ?_
    simp only [pu1, pu2, pu3, pu4]
    apply wpList_nil
    go_upto_region 16 with fail
    apply wp_region_lit
    refine gw_val (by kernel_rfl) (some 49) rfl (.bool false) (eql_n rfl ((7 : Nat)) (5) (decide_eq_false (by decide)) (by kernel_rfl) (by kernel_rfl) _) ?_
    simp only [pu1, pu2, pu3, pu4]
    refine gw_val (by kernel_rfl) (some 48) rfl (.bool false) (by kernel_rfl) ?_
    simp only [pu1, pu2, pu3, pu4]
    apply wpList_nil
    go_upto_region 18 with fail
    apply wp_region_lit
    refine gw_val (by kernel_rfl) (some 59) rfl (.bool false) (eql_n rfl ((7 : Nat)) (6) (decide_eq_false (by decide)) (by kernel_rfl) (by kernel_rfl) _) ?_
    simp only [pu1, pu2, pu3, pu4]
    refine gw_val (by kernel_rfl) (some 58) rfl (.bool false) (by kernel_rfl) ?_
    simp only [pu1, pu2, pu3, pu4]
    apply wpList_nil
    obtain ⟨V2, hst2, hX2, -, hbt2⟩ := st_cell (i := 3) (ty := 26) (v := .int .u64 t.fee) (cs' := txA ⟨xa.snd, xa.sq, xa.gas, t.fee, xa.memo, xa.tr⟩ a1 c1) (w0 := V) (B := g8) HM.out.b8 (Below.refl _ _) (Nat.le_refl _) (by show 3 < 6; decide) rfl (by kernel_rfl) rfl
    have HM2 := Lib.hid (HM.out.set HLY.out HKB.out HOL.out hbt2 hX2)
    go_upto_region 5 with fail
    apply wp_region_lit
    refine gw_val (by kernel_rfl) (some 19) rfl (.pointer (some ⟨g3, 3, none⟩)) (by kernel_rfl) ?_
    simp only [pu1, pu2, pu3, pu4]
    refine gw_load (by kernel_rfl) (some 20) rfl 26 (.tmp 19) rfl ⟨g3, 3, none⟩ (.int .u64 t.fee) (by kernel_rfl) (HM.out.b3.load (i := 3) rfl (by kernel_rfl)) ?_
    simp only [pu1, pu2, pu3, pu4]
    refine gw_val (by kernel_rfl) (some 21) rfl (.pointer (some ⟨g8, 3, none⟩)) (by kernel_rfl) ?_
    simp only [pu1, pu2, pu3, pu4]
    refine gw_store (by kernel_rfl) rfl 26 (.tmp 21) (.tmp 20) rfl (.pointer (some ⟨g8, 3, none⟩)) (.int .u64 t.fee) (by kernel_rfl) (by kernel_rfl) (V2) (hst2) ?_
    apply wpList_nil
    clear hst2 hX2 hbt2
    have hS := HM2.out
    have hcsb : Cs V2 a1 (tfc (⟨xa.snd, xa.sq, xa.gas, t.fee, xa.memo, xa.tr⟩ : Txd).tr) := by obtain ⟨a9, c9, e9, h9, -⟩ := HM2.out.r1.cs; simp only [Value.slice.injEq, true_and] at e9; obtain ⟨rfl, rfl⟩ := e9; exact h9
    have HNB : Hid (Nea g4 g5 ⟨xa.snd, xa.sq, xa.gas, t.fee, xa.memo, xa.tr⟩ a1) := Lib.hid (HNA.out)
    obtain ⟨ar, cr, er, hcsa, -⟩ := hS.r1.cs
    simp only [Value.slice.injEq, true_and] at er
    obtain ⟨rfl, rfl⟩ := er
    have HWX : Hid (TxB ⟨xa.snd, xa.sq, xa.gas, t.fee, xa.memo, xa.tr⟩ ∧ wtX ⟨xa.snd, xa.sq, xa.gas, t.fee, xa.memo, xa.tr⟩ ≤ 1000 + wtX t) := Lib.hid ⟨⟨HGQ.out.b.sq, HGQ.out.b.gas, HTB.out.fee, HGQ.out.b.am, HGQ.out.b.s1, HGQ.out.b.s2, HGQ.out.b.s3⟩, by have h1 := HGQ.out.wt HM13.out.2; unfold wtX at h1 ⊢; dsimp only at h1 ⊢; omega⟩
    have h0 : K20 w g4 g5 g7 g8 xa a1 c1 ⟨xa.snd, xa.sq, xa.gas, t.fee, xa.memo, xa.tr⟩ a1 c1 false false V2.drew := ⟨hS.bel.drew, hS.b4, hS.b5, hS.b7, hS.b8, hcsa, hcsb⟩
    clear hS hcsa hcsb
    go_upto_region 20 with fail
    refine wp_region_inv (fun listed act9 V => ∃ b0 b1 b2 b3 : Bool, listed = #[b0, b1, b2, b3] ∧ act9 = { tmps := #[.slice ak L.length ck, .agg (txA t a c), undef, .pointer (some ⟨g3, 0, none⟩), .pointer (some ⟨g4, 0, none⟩), .pointer (some ⟨g5, 0, none⟩), .pointer (some ⟨gs, 0, none⟩), .pointer (some ⟨g7, 0, none⟩), .pointer (some ⟨g8, 0, none⟩), .slice ak L.length ck, .pointer (some ⟨gs, 0, none⟩), .pointer (some ⟨gs, 0, none⟩), .pointer (some ⟨gs, 0, none⟩), .slice ra (List.length A) rc, .agg #[.slice ra (List.length A) rc, .int .u64 0], .agg (txA xa a1 c1), .agg (txA xa a1 c1), .pointer (some ⟨gs, 0, none⟩), .int .i64 (7 : Nat), .pointer (some ⟨g3, 3, none⟩), .int .u64 t.fee, .pointer (some ⟨g8, 3, none⟩), .bool false, .bool false, undef, undef, undef, .bool false, .bool false, undef, undef, undef, .bool false, .bool false, undef, undef, undef, undef, .bool false, .bool false, undef, undef, undef, .bool false, .bool false, undef, undef, undef, .bool false, .bool false, undef, undef, undef, undef, undef, undef, undef, undef, .bool false, .bool false, undef, undef, undef, undef, undef, undef, undef, undef, (cond b0 (.agg (txA xa a1 c1)) undef), (cond b1 (.agg (txA ⟨xa.snd, xa.sq, xa.gas, t.fee, xa.memo, xa.tr⟩ a1 c1)) undef)], defers := [] } ∧ K20 w g4 g5 g7 g8 xa a1 c1 ⟨xa.snd, xa.sq, xa.gas, t.fee, xa.memo, xa.tr⟩ a1 c1 b2 b3 V) (by kernel_rfl) (by kernel_rfl) ?_ ?_ ?_
    · exact ⟨false, false, false, false, rfl, rfl, h0⟩
    · intro i9 listed act9 V hi9 hr hJ
      obtain ⟨b0, b1, b2, b3, rfl, rfl, hF⟩ := hJ
      have hi2 : i9 < 4 := hi9
      have hi3 : i9 = 0 ∨ i9 = 1 ∨ i9 = 2 ∨ i9 = 3 := by omega
      rcases hi3 with rfl | rfl | rfl | rfl
      · obtain rfl : b0 = false := ready_self hr
        refine st_load rfl (by kernel_rfl) (some 68) rfl 29 (.tmp 7) rfl ⟨g7, 0, none⟩ (.agg (txA xa a1 c1)) (by kernel_rfl) (load_txb hF.b7) ?_
        exact ⟨true, b1, b2, b3, rfl, rfl, hF⟩
      · obtain rfl : b1 = false := ready_self hr
        refine st_load rfl (by kernel_rfl) (some 69) rfl 29 (.tmp 8) rfl ⟨g8, 0, none⟩ (.agg (txA ⟨xa.snd, xa.sq, xa.gas, t.fee, xa.memo, xa.tr⟩ a1 c1)) (by kernel_rfl) (load_txb hF.b8) ?_
        exact ⟨b0, true, b2, b3, rfl, rfl, hF⟩
      · obtain rfl : b2 = false := ready_self hr
        obtain rfl : b0 = true := ready_dep hr 0 (by kernel_rfl)
        obtain ⟨hst, hF2⟩ := hF.s4 HLY.out HNA.out HNB.out
        refine st_storeA rfl (by kernel_rfl) rfl 29 (.tmp 4) (.tmp 68) rfl (.pointer (some ⟨g4, 0, none⟩)) (.agg (txA xa a1 c1)) (by kernel_rfl) (by kernel_rfl) _ hst ?_
        exact ⟨true, b1, true, b3, rfl, rfl, hF2⟩
      · obtain rfl : b3 = false := ready_self hr
        obtain rfl : b1 = true := ready_dep hr 1 (by kernel_rfl)
        obtain ⟨hst, hF2⟩ := hF.s5 HLY.out HNA.out HNB.out
        refine st_storeA rfl (by kernel_rfl) rfl 29 (.tmp 5) (.tmp 69) rfl (.pointer (some ⟨g5, 0, none⟩)) (.agg (txA ⟨xa.snd, xa.sq, xa.gas, t.fee, xa.memo, xa.tr⟩ a1 c1)) (by kernel_rfl) (by kernel_rfl) _ hst ?_
        exact ⟨b0, true, b2, true, rfl, rfl, hF2⟩
    · intro act9 V hJ
      obtain ⟨b0, b1, b2, b3, he, rfl, hF⟩ := hJ
      have he : (#[true, true, true, true] : Array Bool) = #[b0, b1, b2, b3] := he
      simp only [Array.mk.injEq, List.cons.injEq, and_true] at he
      obtain ⟨rfl, rfl, rfl, rfl⟩ := he
      simp only [cond_true]
      have hZ4 : Bx V g4 (txA xa a1 c1) 29 := hF.b4
      have hZ5 : Bx V g5 (txA ⟨xa.snd, xa.sq, xa.gas, t.fee, xa.memo, xa.tr⟩ a1 c1) 29 := hF.b5
      have HE := Lib.hid (⟨xa, ⟨xa.snd, xa.sq, xa.gas, t.fee, xa.memo, xa.tr⟩, a1, c1, a1, c1, rfl, hF.ca, hF.cb, HGQ.out, HM13.out.1, HM13.out.2, HWX.out.1, HWX.out.2, hF.bel⟩ : MadeO w t (.returned (.tuple #[.agg (txA xa a1 c1), .agg (txA ⟨xa.snd, xa.sq, xa.gas, t.fee, xa.memo, xa.tr⟩ a1 c1)])) V)
      clear hF h0 HWX
      go_wp2_with fail
      exact bodyPost_ret (results_2c (p := 4) (q := 5) rfl (by kernel_rfl) (load_txb hZ4) (by kernel_rfl) (load_txb hZ5)) rfl HE.out
end Go.Proofs.Ytaaeepanelmgnaa
