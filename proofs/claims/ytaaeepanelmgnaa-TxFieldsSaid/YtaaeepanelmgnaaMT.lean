/-
  The memory while mempoolmake's Tx runs.
-/
import Derived.Test.YtaaeepanelmgnaaMA
namespace Go.Proofs.Ytaaeepanelmgnaa
open Go.RowKit
set_option linter.unusedSimpArgs false
set_option linter.unusedVariables false

def NSn (w : World) (g : Nat) (a : Option Addr) (c : Nat) (L : List Int) (N : Nat) : Prop := Bx w g #[.slice a L.length c, .int .i64 N] 83 ∧ Cs w a (icells L) ∧ (L ≠ [] → ∀ x, a = some x → x.block ≠ g)
theorem NSn.ns {w : World} {g c N k : Nat} {a : Option Addr} {L : List Int} (h : NSn w g a c L N) (hk : N ≤ k) : NS w g a c L k := ⟨N, hk, h⟩
theorem NSn.below {w w' : World} {g c N : Nat} {a : Option Addr} {L : List Int} (h : NSn w g a c L N) (hb : Below w.heap.size w w') : NSn w' g a c L N := ⟨h.1.below h.1.lt hb, h.2.1.below hb, h.2.2⟩
theorem NSn.but {w w' : World} {g q c N : Nat} {a : Option Addr} {L : List Int} (h : NSn w g a c L N) (hb : But q w w') (hq : g ≠ q) (ha : L ≠ [] → ∀ x, a = some x → x.block < q) : NSn w' g a c L N :=
  ⟨h.1.but hb hq, cs_but0 h.2.1 hb (fun h5 x hx => by have := ha h5 x hx; omega), h.2.2⟩
theorem nsn_next {w : World} {g c N v : Nat} {a : Option Addr} {L : List Int} (h : NSn w g a c L N) (hl : L.length ≤ 100000) (hN : N ≤ 100000) (n : Int) (hn : 0 < n) (hn2 : n ≤ 1000000) (hv : pl (L.getD N 0) n = v) : Calls Try.prog 34 #[.pointer (some ⟨g, 0, none⟩), .int .i64 n] w fun e w' => e = .returned (.int .i64 v) ∧ NSn w' g a c L (N + 1) ∧ But g w w' :=
  (mk_next g L a c N n w h.1 h.2.1 hl hN hn hn2).mono fun e w' q => ⟨by rw [q.1, hv], ⟨q.2.2, cs_but0 h.2.1 q.2.1 h.2.2, h.2.2⟩, q.2.1⟩
theorem pl_nat (L : List Int) (N : Nat) (n : Int) (hn : 0 < n) : ∃ v : Nat, pl (L.getD N 0) n = v ∧ (v : Int) < n := by
  have := pl_range (L.getD N 0) n hn
  exact ⟨(pl (L.getD N 0) n).toNat, by omega, by omega⟩
theorem W64.wrap (x : Int) : W64 (IntKind.u64.wrap x) := by
  have e : IntKind.u64.wrap x = x % 18446744073709551616 := by rw [IntKind.wrap_u64]
  rw [e]
  exact ⟨by omega, by omega⟩
section
variable {ρ : Operand → Value} {o : Oper} {x y : Operand}
theorem conv_iu (ho : o.op = .convert 3 26 x) (a : Int) (h0 : 0 ≤ a) (h1 : a ≤ 1000000) (hx : ρ x = .int .i64 a) (w : World) : (execOp ρ o).run Try.prog w = .ok (.value (.int .u64 a)) w := by
  have hw : IntKind.u64.wrap a = a := by rw [IntKind.wrap_u64]; omega
  unfold execOp
  simp only [ho, hx]
  go_simp
theorem mul_us (ho : o.op = .binOp .mul 26 x y 26) (a b : Int) (h0 : 0 ≤ a * b) (h1 : a * b ≤ 1000000000) (hx : ρ x = .int .u64 a) (hy : ρ y = .int .u64 b) (w : World) : (execOp ρ o).run Try.prog w = .ok (.value (.int .u64 (a * b))) w := by
  have hw : IntKind.u64.wrap (a * b) = a * b := by rw [IntKind.wrap_u64]; omega
  unfold execOp
  simp only [ho, hx, hy]
  go_simp
theorem add_us (ho : o.op = .binOp .add 26 x y 26) (a b : Int) (h0 : 0 ≤ a + b) (h1 : a + b ≤ 1000000000) (hx : ρ x = .int .u64 a) (hy : ρ y = .int .u64 b) (w : World) : (execOp ρ o).run Try.prog w = .ok (.value (.int .u64 (a + b))) w := by
  have hw : IntKind.u64.wrap (a + b) = a + b := by rw [IntKind.wrap_u64]; omega
  unfold execOp
  simp only [ho, hx, hy]
  go_simp
theorem mul_uw (ho : o.op = .binOp .mul 26 x y 26) (a b : Int) (hx : ρ x = .int .u64 a) (hy : ρ y = .int .u64 b) (w : World) : (execOp ρ o).run Try.prog w = .ok (.value (.int .u64 (IntKind.u64.wrap (a * b)))) w := by
  unfold execOp
  simp only [ho, hx, hy]
  go_simp
theorem add_uw (ho : o.op = .binOp .add 26 x y 26) (a b : Int) (hx : ρ x = .int .u64 a) (hy : ρ y = .int .u64 b) (w : World) : (execOp ρ o).run Try.prog w = .ok (.value (.int .u64 (IntKind.u64.wrap (a + b)))) w := by
  unfold execOp
  simp only [ho, hx, hy]
  go_simp
end
/-- A drawn transaction so far. -/
structure GQ (x : Txd) : Prop where
  snd : NmQ x.snd
  sq : W64 x.sq
  gas : 150 ≤ x.gas ∧ x.gas ≤ 1000
  fee : W64 x.fee
  memo : MmQ x.memo
  tr : ∀ y, y ∈ x.tr → NmQ y.1 ∧ 0 < y.2 ∧ W64 y.2
theorem valT_zero : ∀ {M : List Tf}, (∀ y, y ∈ M → NmQ y.1 ∧ 0 < y.2 ∧ W64 y.2) → valT M = 0
  | [], _ => rfl
  | y :: r, h => by
    have := h y (by simp)
    unfold valT
    rw [if_neg (by rw [this.1.1]; decide), if_neg (by omega), valT_zero (fun z hz => h z (by simp [hz]))]
theorem GQ.val {x : Txd} (h : GQ x) (h1 : 1 ≤ x.tr.length) (h2 : x.tr.length ≤ 16) : valX x = 0 := by
  unfold valX
  have := h.gas
  rw [if_neg (by rw [h.snd.1]; decide), if_neg (by omega), if_neg (by rw [h.memo.1]; decide), if_neg (by omega)]
  exact valT_zero h.tr
theorem GQ.b {x : Txd} (h : GQ x) : TxB x := ⟨h.sq, ⟨by have := h.gas; omega, by have := h.gas; omega⟩, h.fee, fun y hy => (h.tr y hy).2.2, by have := h.snd.2; omega, by have := h.memo.2; omega, fun y hy => by have := (h.tr y hy).1.2; omega⟩
/-- The memory while a transaction is drawn. -/
structure St (w : World) (g : Nat) (a : Option Addr) (c : Nat) (L : List Int) (N : Nat) (g4 g6 g7 : Nat) (ra : Option Addr) (rc : Nat) (A : List Ac) (co : Int) (B7 : Nat) (x : Txd) (a2 : Option Addr) (c2 : Nat) (V : World) : Prop where
  bt : But g w V
  ns : NSn V g a c L N
  row : Cs V ra (acc A)
  b4 : Bx V g4 #[.slice ra A.length rc, .int .u64 co] 71
  b6 : Bx V g6 (txA zX none 0) 29
  b7 : Bx V g7 (txA x a2 c2) 29
  rt : RowT V B7 (.slice a2 x.tr.length c2) x.tr
  sz : B7 ≤ V.heap.size
/-- How the blocks lie. -/
structure Ly (w : World) (g : Nat) (a : Option Addr) (L : List Int) (g4 g6 g7 : Nat) (ra : Option Addr) (A : List Ac) (B7 : Nat) : Prop where
  hg : g < w.heap.size
  h4 : w.heap.size ≤ g4
  h6 : w.heap.size ≤ g6
  h7 : w.heap.size ≤ g7
  n46 : g4 ≠ g6
  n47 : g4 ≠ g7
  n67 : g6 ≠ g7
  l4 : g4 < B7
  l6 : g6 < B7
  l7 : g7 < B7
  ab : L ≠ [] → ∀ x, a = some x → x.block < w.heap.size
  rb : acc A ≠ [] → ∀ x, ra = some x → x.block < w.heap.size ∧ x.block ≠ g
section
variable {w : World} {g : Nat} {a : Option Addr} {c : Nat} {L : List Int} {N g4 g6 g7 : Nat} {ra : Option Addr} {rc : Nat} {A : List Ac} {co : Int} {B7 : Nat} {x : Txd} {a2 : Option Addr} {c2 : Nat} {V : World}
theorem cs_same {V V2 : World} {a : Option Addr} {cs : List Value} (h : Cs V a cs) (hs : V.heap.size ≤ V2.heap.size) (hk : cs ≠ [] → ∀ x, a = some x → V2.heap[x.block]? = V.heap[x.block]?) : Cs V2 a cs := fun j v hj => by
  obtain ⟨b, off, rfl, hb, hc⟩ := h j v hj
  have hne : cs ≠ [] := by intro e; rw [e] at hj; simp at hj
  exact ⟨b, off, rfl, Nat.lt_of_lt_of_le hb hs, (World.cell?_of_block (a := ⟨b, off + j, none⟩) (hk hne ⟨b, off, none⟩ rfl)).trans hc⟩
theorem St.below (h : St w g a c L N g4 g6 g7 ra rc A co B7 x a2 c2 V) {V2 : World} (hb : Below V.heap.size V V2) : St w g a c L N g4 g6 g7 ra rc A co B7 x a2 c2 V2 :=
  ⟨h.bt.trans (But.of_below hb (Nat.le_of_lt h.ns.1.lt)), h.ns.below hb, h.row.below hb, h.b4.below h.b4.lt hb, h.b6.below h.b6.lt hb, h.b7.below h.b7.lt hb, h.rt.below hb, Nat.le_trans h.sz hb.size⟩
theorem St.call (h : St w g a c L N g4 g6 g7 ra rc A co B7 x a2 c2 V) (ly : Ly w g a L g4 g6 g7 ra A B7) {V2 : World} {N2 : Nat} (hns : NSn V2 g a c L N2) (hb : But g V V2) : St w g a c L N2 g4 g6 g7 ra rc A co B7 x a2 c2 V2 :=
  have h1 := ly.hg
  have h2 := ly.h4
  have h3 := ly.h6
  have h4 := ly.h7
  have h5 := ly.l7
  ⟨h.bt.trans hb, hns, cs_same h.row hb.1.size (fun hn y hy => hb.2 _ (Nat.lt_of_lt_of_le (ly.rb hn y hy).1 h.bt.1.size) (ly.rb hn y hy).2), h.b4.but hb (by omega), h.b6.but hb (by omega), h.b7.but hb (by omega), h.rt.but hb (by omega), Nat.le_trans h.sz hb.1.size⟩
theorem St.set (h : St w g a c L N g4 g6 g7 ra rc A co B7 x a2 c2 V) (ly : Ly w g a L g4 g6 g7 ra A B7) {V2 : World} {x' : Txd} (hb : But g7 V V2) (hx : Bx V2 g7 (txA x' a2 c2) 29) (ht : x'.tr = x.tr) : St w g a c L N g4 g6 g7 ra rc A co B7 x' a2 c2 V2 :=
  have h1 := ly.hg
  have h4 := ly.h7
  ⟨but_at h.bt hb h4 (by omega), h.ns.but hb (by omega) (fun hl y hy => Nat.lt_of_lt_of_le (ly.ab hl y hy) h4), cs_same h.row hb.1.size (fun hn y hy => hb.2 _ (Nat.lt_of_lt_of_le (ly.rb hn y hy).1 h.bt.1.size) (by have := (ly.rb hn y hy).1; omega)), h.b4.but hb ly.n47, h.b6.but hb ly.n67, hx, by rw [ht]; exact h.rt.but hb ly.l7, Nat.le_trans h.sz hb.1.size⟩
/-- Blocks from B7 on may change. -/
theorem St.far (h : St w g a c L N g4 g6 g7 ra rc A co B7 x a2 c2 V) (ly : Ly w g a L g4 g6 g7 ra A B7) {V2 : World} (hw : w.heap.size ≤ B7) (hb : Below B7 V V2) : But g w V2 ∧ NSn V2 g a c L N ∧ Cs V2 ra (acc A) ∧ Bx V2 g4 #[.slice ra A.length rc, .int .u64 co] 71 ∧ Bx V2 g6 (txA zX none 0) 29 ∧ Bx V2 g7 (txA x a2 c2) 29 ∧ B7 ≤ V2.heap.size :=
  have h1 := ly.hg
  ⟨h.bt.more (hb.mono hw) (Nat.le_of_lt h1), ⟨h.ns.1.below (by omega) hb, by
    obtain ⟨_, _, _, q, _⟩ := ns_more (w := w) (h.ns.ns (Nat.le_refl _)) (hb.mono hw) h1 ly.ab
    exact q, h.ns.2.2⟩, cs_same h.row hb.size (fun hn y hy => hb.block _ (Nat.lt_of_lt_of_le (ly.rb hn y hy).1 hw)), h.b4.below ly.l4 hb, h.b6.below ly.l6 hb, h.b7.below ly.l7 hb, Nat.le_trans h.sz hb.size⟩
end
theorem results_1c {fn : Func} {tmps : Array Value} {w : World} {p g ty : Nat} {v : Value} (hr : fn.results = #[.cell p ty]) (h2 : tmps.getD p undef = .pointer (some ⟨g, 0, none⟩)) (hl : (Instr.loadAt ty (.pointer (some ⟨g, 0, none⟩))).run Try.prog w = .ok v w) : (results fn tmps).run Try.prog w = .ok v w := by
  unfold results
  rw [hr]
  have h2' : tmps[p]?.getD undef = .pointer (some ⟨g, 0, none⟩) := by simpa using h2
  have hl' := hl
  simp only [Instr.loadAt, Instr.sureAddr, Sem.run_bind, Sem.run_pure, Result.andThen_ok] at hl'
  simp [h2', asAddr, hl', Result.andThen]
/-- What region 4 keeps. -/
structure K4 (w : World) (g : Nat) (a : Option Addr) (c : Nat) (L : List Int) (N : Nat) (g4 g6 g7 : Nat) (ra : Option Addr) (rc : Nat) (A : List Ac) (co : Int) (B7 : Nat) (x : Txd) (W : World) (y : Ac) (b4 b7 b8 : Bool) (x9 : Value) (V : World) : Prop where
  o8 : b8 = true → b7 = true
  ws : W.heap.size ≤ V.heap.size
  st : St w g a c L (N + b4.toNat) g4 g6 g7 ra rc A co B7 x none 0 V
  f9 : b7 = true → b8 = false → ∃ q, x9 = .pointer (some ⟨q, 0, none⟩) ∧ W.heap.size ≤ q ∧ Bx V q (acA zAc) 86
  d9 : b8 = true → ∃ q, x9 = .pointer (some ⟨q, 0, none⟩) ∧ W.heap.size ≤ q ∧ Bx V q (acA y) 86
section
variable {w : World} {g : Nat} {a : Option Addr} {c : Nat} {L : List Int} {N g4 g6 g7 : Nat} {ra : Option Addr} {rc : Nat} {A : List Ac} {co : Int} {B7 : Nat} {x : Txd} {W : World} {y : Ac} {b4 b7 b8 : Bool} {x9 : Value} {V : World}
theorem K4.s4 (h : K4 w g a c L N g4 g6 g7 ra rc A co B7 x W y false b7 b8 x9 V) (ly : Ly w g a L g4 g6 g7 ra A B7) (hg : g < W.heap.size) {V2 : World} (hns : NSn V2 g a c L (N + 1)) (hb : But g V V2) : K4 w g a c L N g4 g6 g7 ra rc A co B7 x W y true b7 b8 x9 V2 :=
  ⟨h.o8, Nat.le_trans h.ws hb.1.size, h.st.call ly hns hb,
   fun e1 e2 => by obtain ⟨q, h1, h2, h3⟩ := h.f9 e1 e2; exact ⟨q, h1, h2, h3.but hb (by omega)⟩,
   fun e1 => by obtain ⟨q, h1, h2, h3⟩ := h.d9 e1; exact ⟨q, h1, h2, h3.but hb (by omega)⟩⟩
theorem K4.s7 (h : K4 w g a c L N g4 g6 g7 ra rc A co B7 x W y b4 false b8 x9 V) : K4 w g a c L N g4 g6 g7 ra rc A co B7 x W y b4 true b8 (.pointer (some ⟨V.heap.size, 0, none⟩)) (V.alloc (.cells (acA zAc) 86)) := by
  have h8 := ff h.o8 rfl
  subst h8
  have hb : Below V.heap.size V (V.alloc (.cells (acA zAc) 86)) := (Below.refl _ V).alloc (Nat.le_refl _) _
  exact ⟨(fun e => nomatch e), Nat.le_trans h.ws hb.size, h.st.below hb, fun _ _ => ⟨_, rfl, h.ws, heap_alloc_last V _⟩, (fun e => nomatch e)⟩
theorem K4.s8 (h : K4 w g a c L N g4 g6 g7 ra rc A co B7 x W y b4 true false x9 V) (ly : Ly w g a L g4 g6 g7 ra A B7) (hw : w.heap.size ≤ W.heap.size) (hB : B7 ≤ W.heap.size) : ∃ q V2, x9 = .pointer (some ⟨q, 0, none⟩) ∧ (Instr.storeAt 86 (.pointer (some ⟨q, 0, none⟩)) (.agg (acA y))).run Try.prog V = .ok () V2 ∧ K4 w g a c L N g4 g6 g7 ra rc A co B7 x W y b4 true true (.pointer (some ⟨q, 0, none⟩)) V2 := by
  obtain ⟨q, rfl, hq, hx⟩ := h.f9 rfl rfl
  obtain ⟨hst, hZ⟩ := store_ac (y := y) hx
  have hbt : But q V (V.setRow q (acA y)) := But.setRow V _
  have l4 := ly.l4
  have l6 := ly.l6
  have l7 := ly.l7
  have lg := ly.hg
  refine ⟨q, _, rfl, hst, fun _ => rfl, Nat.le_trans h.ws hbt.1.size, ?_, (fun _ e => nomatch e), fun _ => ⟨q, rfl, hq, hZ⟩⟩
  have s := h.st
  have hrt : RowT (V.setRow q (acA y)) B7 (.slice none x.tr.length 0) x.tr := by
    have e := s.rt
    unfold RowT at *
    refine ⟨e.1, ?_⟩
    rcases e.2 with h0 | ⟨gg, cap, cur, ev, -⟩
    · exact .inl h0
    · simp only [Value.slice.injEq] at ev
      cases ev.1
  exact ⟨but_at s.bt hbt (Nat.le_trans hw hq) (by omega), s.ns.but hbt (by omega) (fun hl z hz => by have := ly.ab hl z hz; omega), cs_same s.row hbt.1.size (fun hn z hz => hbt.2 _ (Nat.lt_of_lt_of_le (ly.rb hn z hz).1 s.bt.1.size) (by have := (ly.rb hn z hz).1; omega)), s.b4.but hbt (by omega), s.b6.but hbt (by omega), s.b7.but hbt (by omega), hrt, Nat.le_trans s.sz hbt.1.size⟩
end
/-- What region 5 keeps. -/
def K5 (w : World) (g : Nat) (a : Option Addr) (c : Nat) (L : List Int) (N : Nat) (g4 g6 g7 : Nat) (ra : Option Addr) (rc : Nat) (A : List Ac) (co : Int) (B7 : Nat) (x : Txd) (y : Ac) (q : Nat) (b5 b7 : Bool) (V : World) : Prop :=
  St w g a c L N g4 g6 g7 ra rc A co B7 ⟨cond b5 y.1 x.snd, cond b7 y.2.2 x.sq, x.gas, x.fee, x.memo, x.tr⟩ none 0 V ∧ Bx V q (acA y) 86
/-- What regions 7 and 8 keep. -/
def K7 (w : World) (g : Nat) (a : Option Addr) (c : Nat) (L : List Int) (N : Nat) (g4 g6 g7 : Nat) (ra : Option Addr) (rc : Nat) (A : List Ac) (co : Int) (B7 : Nat) (x : Txd) (sq fee : Int) (b3 b7 : Bool) (V : World) : Prop :=
  St w g a c L (N + b3.toNat) g4 g6 g7 ra rc A co B7 ⟨x.snd, cond b7 sq x.sq, x.gas, cond b7 fee x.fee, x.memo, x.tr⟩ none 0 V
def TxMO (w : World) (g : Nat) (a : Option Addr) (c : Nat) (L : List Int) (k : Nat) (e : Ending) (w' : World) : Prop := ∃ x a2 c2, e = .returned (.agg (txA x a2 c2)) ∧ RowT w' w.heap.size (.slice a2 x.tr.length c2) x.tr ∧ GQ x ∧ 1 ≤ x.tr.length ∧ x.tr.length ≤ 3 ∧ NS w' g a c L (k + 40) ∧ But g w w'
end Go.Proofs.Ytaaeepanelmgnaa
