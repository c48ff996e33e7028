/-
  The statements' made: some ledger.
-/
import Derived.Test.YtebnlklodokhkaaDoorLB
namespace Go.Proofs.YtebnlklodokhkaaDoor.Lg
set_option maxRecDepth 100000
open Go.RowKit
set_option linter.unusedSimpArgs false
set_option linter.unusedVariables false

/-- What is known of a ledger that is made. -/
structure LQ (P : List Ac) (c : Int) : Prop where
  w : AcW P
  c : W64 c
  z : ∀ x, x ∈ P → x.1.size ≤ 20
  l : P.length ≤ 300
theorem LQ.z2 {P : List Ac} {c : Int} (h : LQ P c) : ∀ x, x ∈ P → x.1.size ≤ 140737488355328 := fun x hx => Nat.le_trans (h.z x hx) (by decide)
theorem LQ.nil : LQ [] 0 := ⟨acw_nil, w64_0, (fun x hx => by cases hx), by decide⟩
theorem gen_mem : ∀ (A B : List Ac) (x : Ac), x ∈ (genS B A).1 → x ∈ B ∨ x ∈ A
  | [], B, x, h => .inl h
  | a :: r, B, x, h => by
    unfold genS at h
    split at h
    · cases h
    split at h
    · cases h
    rcases gen_mem r (putL B a) x h with h1 | h1
    · rcases put_mem h1 with h2 | h2
      · exact .inr (h2 ▸ List.mem_cons_self ..)
      · exact .inl h2
    · exact .inr (List.mem_cons_of_mem _ h1)
theorem LQ.gen {A : List Ac} (hw : AcW A) (hz : ∀ x, x ∈ A → x.1.size ≤ 20) : LQ (genY A).1 (genY A).2.1 := by
  refine ⟨genX_w hw, w64_0, fun x hx => ?_, ?_⟩
  · unfold genY genX at hx
    simp only at hx
    split at hx
    · cases hx
    split at hx
    · cases hx
    split at hx
    · rcases gen_mem A [] x hx with h1 | h1
      · cases h1
      · exact hz x h1
    · cases hx
  · unfold genY genX
    simp only
    split
    · exact Nat.zero_le _
    split
    · exact Nat.zero_le _
    split
    · rename_i h1 h2 _
      have h3 : (genS [] A).2 = 0 := by simpa using h2
      have := (gen_ok A [] srt_nil nmd_nil h3).2.2
      rw [this]
      simp only [List.length_nil]
      omega
    · exact Nat.zero_le _
theorem LQ.set {P : List Ac} {c : Int} {y : Ac} (h : LQ P c) (hy : y.1.size ≤ 20) (hw : W64 y.2.1 ∧ W64 y.2.2) : LQ (setX P c y).1 (setX P c y).2.1 := by
  refine ⟨setX_w h.w hw, ?_, fun x hx => ?_, ?_⟩
  · unfold setX
    split
    · exact w64_0
    split
    · exact w64_0
    split
    · exact w64_0
    split
    · exact h.c
    · exact w64_0
  · unfold setX at hx
    split at hx
    · cases hx
    split at hx
    · cases hx
    split at hx
    · cases hx
    split at hx
    · exact (put_mem hx).elim (fun e => e ▸ hy) (h.z x)
    · cases hx
  · unfold setX
    split
    · exact Nat.zero_le _
    split
    · exact Nat.zero_le _
    split
    · exact Nat.zero_le _
    split
    · rename_i h1 h2 h3 h4
      exact Nat.le_trans (Nat.not_lt.1 h3) (by decide)
    · exact Nat.zero_le _
theorem gen_len (A : List Ac) : (genY A).1.length ≤ A.length := by
  unfold genY genX
  simp only
  split
  · exact Nat.zero_le _
  split
  · exact Nat.zero_le _
  split
  · rename_i h1 h2 _
    have h3 : (genS [] A).2 = 0 := by simpa using h2
    have := (gen_ok A [] srt_nil nmd_nil h3).2.2
    rw [this]
    simp
  · exact Nat.zero_le _
theorem set_len (P : List Ac) (c : Int) (y : Ac) : (setX P c y).1.length ≤ P.length + 1 := by
  unfold setX
  split
  · exact Nat.zero_le _
  split
  · exact Nat.zero_le _
  split
  · exact Nat.zero_le _
  split
  · simp only [put_len]
    split <;> omega
  · exact Nat.zero_le _
theorem conv_i6 {ρ : Operand → Value} {o : Oper} {x : Operand} (ho : o.op = .convert 3 23 x) (a : Nat) (h1 : a ≤ 1000000) (hx : ρ x = .int .i64 a) (w : World) : (execOp ρ o).run Tryd.prog w = .ok (.value (.int .u64 a)) w := by
  have hw : IntKind.u64.wrap (a : Int) = a := by rw [IntKind.wrap_u64]; omega
  unfold execOp
  simp only [ho, hx]
  go_simp
theorem sub_1 {ρ : Operand → Value} {o : Oper} {x y : Operand} (ho : o.op = .binOp .sub 3 x y 3) (m : Nat) (h0 : 0 < m) (hm : m ≤ 1000000) (hx : ρ x = .int .i64 m) (hy : ρ y = .int .i64 1) (w : World) : (execOp ρ o).run Tryd.prog w = .ok (.value (.int .i64 (m - 1 : Nat))) w := sub_p ho m h0 (by omega) hx hy w
theorem results_1c {fn : Func} {tmps : Array Value} {w : World} {p g ty : Nat} {v : Value} (hr : fn.results = #[.cell p ty]) (h2 : tmps.getD p undef = .pointer (some ⟨g, 0, none⟩)) (hl : (Instr.loadAt ty (.pointer (some ⟨g, 0, none⟩))).run Tryd.prog w = .ok v w) : (results fn tmps).run Tryd.prog w = .ok v w := by
  unfold results
  rw [hr]
  have h2' : tmps[p]?.getD undef = .pointer (some ⟨g, 0, none⟩) := by simpa using h2
  have hl' := hl
  simp only [Instr.loadAt, Instr.sureAddr, Sem.run_bind, Sem.run_pure, Result.andThen_ok] at hl'
  simp [h2', asAddr, hl', Result.andThen]
/-- The memory while a ledger is made. -/
structure Ml (w : World) (gs g0 g4 : Nat) (ak : Option Addr) (ck : Nat) (L : List Int) (B1 : Nat) (a4 : Option Addr) (k4 : Nat) (P : List Ac) (cc : Int) (k : Nat) (V : World) : Prop where
  bel : Below w.heap.size w V
  ns : NS V gs ak ck L k
  b0 : Bx V g0 (lgA none 0 0 0) 25
  b4 : Bx V g4 (lgA a4 P.length k4 cc) 25
  row : V.ownsRow B1 37 3 (.slice a4 P.length k4) P.length (acc P)
  ne : (Value.slice a4 P.length k4).ownBlock ≠ some g4
structure My (w : World) (gs g0 g4 B1 : Nat) (ak : Option Addr) (L : List Int) : Prop where
  s0 : gs ≠ g0
  s4 : gs ≠ g4
  z4 : g0 ≠ g4
  sB : gs < B1
  wB : w.heap.size ≤ B1
  ws : w.heap.size ≤ gs
  w0 : w.heap.size ≤ g0
  w4 : w.heap.size ≤ g4
  zB : g0 < B1
  hk : L ≠ [] → ∀ x, ak = some x → x.block < w.heap.size
section
variable {w : World} {gs g0 g4 : Nat} {ak : Option Addr} {ck : Nat} {L : List Int} {B1 : Nat} {a4 : Option Addr} {k4 : Nat} {P : List Ac} {cc : Int} {k : Nat} {V V2 : World}
theorem Ml.below (h : Ml w gs g0 g4 ak ck L B1 a4 k4 P cc k V) (hb : Below V.heap.size V V2) : Ml w gs g0 g4 ak ck L B1 a4 k4 P cc k V2 :=
  ⟨h.bel.trans (hb.mono h.bel.size), h.ns.below hb, h.b0.below h.b0.lt hb, h.b4.below h.b4.lt hb, own_below h.row hb, h.ne⟩
theorem Ml.call (h : Ml w gs g0 g4 ak ck L B1 a4 k4 P cc k V) (y : My w gs g0 g4 B1 ak L) {k2 : Nat} (hn : NS V2 gs ak ck L k2) (hb : But gs V V2) : Ml w gs g0 g4 ak ck L B1 a4 k4 P cc k2 V2 :=
  ⟨h.bel.trans (hb.1.mono y.ws), hn, h.b0.but hb y.s0.symm, h.b4.but hb y.s4.symm, own_but h.row hb y.sB, h.ne⟩
theorem Ml.mono (h : Ml w gs g0 g4 ak ck L B1 a4 k4 P cc k V) {k2 : Nat} (hk : k ≤ k2) : Ml w gs g0 g4 ak ck L B1 a4 k4 P cc k2 V := ⟨h.bel, h.ns.mono hk, h.b0, h.b4, h.row, h.ne⟩
theorem ns_but2 {q : Nat} (h : NS V gs ak ck L k) (hb : But q V V2) (hq : gs ≠ q) (ha : L ≠ [] → ∀ x, ak = some x → x.block < q) : NS V2 gs ak ck L k := by
  obtain ⟨N, h1, h2, h3, h4⟩ := h
  exact ⟨N, h1, h2.but hb hq, cs_but0 h3 hb (fun h5 x hx => by have := ha h5 x hx; omega), h4⟩
/-- The ledger's block is written. -/
theorem Ml.put (h : Ml w gs g0 g4 ak ck L B1 a4 k4 P cc k V) (y : My w gs g0 g4 B1 ak L) (hb : But g4 V V2) {a5 : Option Addr} {k5 : Nat} {Q : List Ac} {dd : Int} (hx : Bx V2 g4 (lgA a5 Q.length k5 dd) 25) (hr : V.ownsRow B1 37 3 (.slice a5 Q.length k5) Q.length (acc Q)) (hn : (Value.slice a5 Q.length k5).ownBlock ≠ some g4) : Ml w gs g0 g4 ak ck L B1 a5 k5 Q dd k V2 :=
  ⟨h.bel.trans (hb.1.mono y.w4), ns_but2 h.ns hb y.s4 (fun h5 x hx => Nat.lt_of_lt_of_le (y.hk h5 x hx) y.w4), h.b0.but hb y.z4, hx, own_eq hr fun q hq => hb.2 q (World.ownsRow.lt hr q hq).2 (fun e => hn (e ▸ hq)), hn⟩
end
/-- What the region keeps that puts an account into the ledger. -/
structure K7 (w : World) (gs g0 g4 : Nat) (ak : Option Addr) (ck : Nat) (L : List Int) (B1 : Nat) (a4 : Option Addr) (k4 : Nat) (P : List Ac) (cc : Int) (k0 B4 : Nat) (b2 b4 b5 b7 b8 b9 b10 b11 b12 b13 b14 b15 b16 : Bool) (x30 x32 x33 x35 x36 x37 x38 x39 x40 x7 : Value) (V : World) : Prop where
  ml : Ml w gs g0 g4 ak ck L B1 a4 k4 P cc (k0 + (b2.toNat + b4.toNat + b7.toNat)) V
  sz : B4 ≤ V.heap.size
  f30 : b2 = true → ∃ s, x30 = .string s ∧ s.size ≤ 20
  f32 : b4 = true → ∃ v : Nat, x32 = .int .i64 v ∧ v < 70
  f33 : b5 = true → ∃ v : Nat, x33 = .int .u64 v ∧ v < 70
  f35 : b7 = true → ∃ v : Nat, x35 = .int .i64 v ∧ v < 4
  f36 : b8 = true → ∃ v : Nat, x36 = .int .u64 v ∧ v < 4
  f37 : b9 = true → ∃ y : Ac, x37 = .agg (acA y) ∧ y.1.size ≤ 20 ∧ W64 y.2.1 ∧ W64 y.2.2
  f38 : b10 = true → ∃ Q dd e a5 k5, x38 = .tuple #[.agg (lgA a5 (List.length Q) k5 dd), .int .i64 e] ∧ V.ownsRow B4 37 3 (.slice a5 Q.length k5) Q.length (acc Q) ∧ LQ Q dd ∧ Q.length ≤ P.length + 1
  o10 : b10 = true → b9 = true
  o9 : b9 = true → b2 = true ∧ b5 = true ∧ b8 = true
  o5 : b5 = true → b4 = true
  o8 : b8 = true → b7 = true
  o11 : b11 = true → b10 = true
  o12 : b12 = true → b11 = true
  o13 : b13 = true → b11 = true
  f39 : b12 = true → ∃ u v, x38 = .tuple #[u, v] ∧ x39 = u
  f40 : b13 = true → ∃ u v, x38 = .tuple #[u, v] ∧ x40 = v
  o15 : b15 = true → b12 = true ∧ b14 = true
  o16 : b16 = true → b13 = true
  f7 : b14 = true → ∃ g, x7 = .pointer (some ⟨g, 0, none⟩) ∧ B4 ≤ g ∧ (b15 = false → Bx V g (lgA none 0 0 0) 25) ∧ (b10 = true → ∀ Q dd e a5 k5, x38 = .tuple #[.agg (lgA a5 Q k5 dd), .int .i64 e] → (Value.slice a5 Q k5).ownBlock ≠ some g) ∧ (b15 = true → ∀ Q dd e a5 k5, x38 = .tuple #[.agg (lgA a5 Q k5 dd), .int .i64 e] → Bx V g (lgA a5 Q k5 dd) 25)
section
variable {w : World} {gs g0 g4 : Nat} {ak : Option Addr} {ck : Nat} {L : List Int} {B1 : Nat} {a4 : Option Addr} {k4 : Nat} {P : List Ac} {cc : Int} {k0 B4 : Nat} {b2 b4 b5 b7 b8 b9 b10 b11 b12 b13 b14 b15 b16 : Bool} {x30 x32 x33 x35 x36 x37 x38 x39 x40 x7 v : Value} {V V2 : World}
/-- A number or a name is drawn, ahead of the call. -/
theorem K7.draw (h : K7 w gs g0 g4 ak ck L B1 a4 k4 P cc k0 B4 b2 b4 b5 b7 b8 b9 false b11 b12 b13 b14 b15 b16 x30 x32 x33 x35 x36 x37 x38 x39 x40 x7 V) (y : My w gs g0 g4 B1 ak L) (hB : gs < B4) {c2 c4 c7 : Bool} (m2 : b2 = true → c2 = true) (m4 : b4 = true → c4 = true) (m7 : b7 = true → c7 = true) (hn : NS V2 gs ak ck L (k0 + (c2.toNat + c4.toNat + c7.toNat))) (hb : But gs V V2) {z30 z32 z35 : Value}
    (g30 : c2 = true → ∃ s, z30 = .string s ∧ s.size ≤ 20) (g32 : c4 = true → ∃ v : Nat, z32 = .int .i64 v ∧ v < 70) (g35 : c7 = true → ∃ v : Nat, z35 = .int .i64 v ∧ v < 4) : K7 w gs g0 g4 ak ck L B1 a4 k4 P cc k0 B4 c2 c4 b5 c7 b8 b9 false b11 b12 b13 b14 b15 b16 z30 z32 x33 z35 x36 x37 x38 x39 x40 x7 V2 := by
  obtain rfl := ff h.o11 rfl
  obtain rfl := ff h.o12 rfl
  have hn15 : b15 = false := ff (fun e => (h.o15 e).1) rfl
  obtain rfl := hn15
  exact ⟨h.ml.call y hn hb, Nat.le_trans h.sz hb.1.size, g30, g32, h.f33, g35, h.f36, h.f37, (fun e => nomatch e), (fun e => nomatch e), fun e => ⟨m2 (h.o9 e).1, (h.o9 e).2⟩, fun e => m4 (h.o5 e), fun e => m7 (h.o8 e), (fun e => nomatch e), (fun e => nomatch e), h.o13, (fun e => nomatch e), h.f40, (fun e => nomatch e), h.o16, fun e => by
    obtain ⟨g, h1, h2, h3, -, -⟩ := h.f7 e
    exact ⟨g, h1, h2, fun _ => (h3 rfl).but hb (by omega), (fun e => nomatch e), (fun e => nomatch e)⟩⟩
theorem K7.call (h : K7 w gs g0 g4 ak ck L B1 a4 k4 P cc k0 B4 b2 b4 b5 b7 b8 true false b11 b12 b13 b14 b15 b16 x30 x32 x33 x35 x36 x37 x38 x39 x40 x7 V) (hb : Below V.heap.size V V2) {Q : List Ac} {dd e : Int} {a5 : Option Addr} {k5 : Nat} (hr : V2.ownsRow V.heap.size 37 3 (.slice a5 Q.length k5) Q.length (acc Q)) (hq : LQ Q dd ∧ Q.length ≤ P.length + 1) : K7 w gs g0 g4 ak ck L B1 a4 k4 P cc k0 B4 b2 b4 b5 b7 b8 true true b11 b12 b13 b14 b15 b16 x30 x32 x33 x35 x36 x37 (.tuple #[.agg (lgA a5 Q.length k5 dd), .int .i64 e]) x39 x40 x7 V2 := by
  obtain rfl := ff h.o11 rfl
  obtain rfl := ff h.o12 rfl
  obtain rfl := ff h.o13 rfl
  have hn15 : b15 = false := ff (fun e => (h.o15 e).1) rfl
  obtain rfl := hn15
  obtain rfl := ff h.o16 rfl
  exact ⟨h.ml.below hb, Nat.le_trans h.sz hb.size, h.f30, h.f32, h.f33, h.f35, h.f36, h.f37, fun _ => ⟨Q, dd, e, a5, k5, rfl, own_base hr h.sz, hq⟩, fun _ => rfl, h.o9, h.o5, h.o8, (fun e => nomatch e), (fun e => nomatch e), (fun e => nomatch e), (fun e => nomatch e), (fun e => nomatch e), (fun e => nomatch e), (fun e => nomatch e), fun e9 => by
    obtain ⟨g, h1, h2, h3, -, -⟩ := h.f7 e9
    refine ⟨g, h1, h2, fun _ => (h3 rfl).below (h3 rfl).lt hb, fun _ Q2 d2 e2 a2 k2 e3 => ?_, (fun e => nomatch e)⟩
    simp only [Value.tuple.injEq, Array.mk.injEq, List.cons.injEq, Value.agg.injEq, Value.slice.injEq, and_true] at e3
    obtain ⟨⟨⟨rfl, rfl, rfl⟩, -⟩, -⟩ := e3
    intro e4
    have := (World.ownsRow.lt hr _ e4).1
    have := (h3 rfl).lt
    omega⟩
theorem K7.alloc (h : K7 w gs g0 g4 ak ck L B1 a4 k4 P cc k0 B4 b2 b4 b5 b7 b8 b9 b10 b11 b12 b13 false b15 b16 x30 x32 x33 x35 x36 x37 x38 x39 x40 x7 V) : K7 w gs g0 g4 ak ck L B1 a4 k4 P cc k0 B4 b2 b4 b5 b7 b8 b9 b10 b11 b12 b13 true b15 b16 x30 x32 x33 x35 x36 x37 x38 x39 x40 (.pointer (some ⟨V.heap.size, 0, none⟩)) (V.alloc (.cells (lgA none 0 0 0) 25)) := by
  have hn15 : b15 = false := ff (fun e => (h.o15 e).2) rfl
  obtain rfl := hn15
  have hb : Below V.heap.size V (V.alloc (.cells (lgA none 0 0 0) 25)) := (Below.refl _ V).alloc (Nat.le_refl _) _
  refine ⟨h.ml.below hb, Nat.le_trans h.sz hb.size, h.f30, h.f32, h.f33, h.f35, h.f36, h.f37, fun e9 => ?_, h.o10, h.o9, h.o5, h.o8, h.o11, h.o12, h.o13, h.f39, h.f40, (fun e => nomatch e), h.o16, fun _ => ⟨V.heap.size, rfl, h.sz, fun _ => heap_alloc_last V _, fun e9 Q2 d2 e2 a2 k2 e3 => ?_, (fun e => nomatch e)⟩⟩
  · obtain ⟨Q, dd, e, a5, k5, h1, h2, h3⟩ := h.f38 e9
    exact ⟨Q, dd, e, a5, k5, h1, own_below h2 hb, h3⟩
  · obtain ⟨Q, dd, e, a5, k5, h1, h2, h3⟩ := h.f38 e9
    rw [h1] at e3
    simp only [Value.tuple.injEq, Array.mk.injEq, List.cons.injEq, Value.agg.injEq, Value.slice.injEq, and_true] at e3
    obtain ⟨⟨⟨rfl, rfl, rfl⟩, -⟩, -⟩ := e3
    exact fun e4 => Nat.lt_irrefl _ (World.ownsRow.lt h2 _ e4).2
theorem K7.store (h : K7 w gs g0 g4 ak ck L B1 a4 k4 P cc k0 B4 b2 b4 b5 b7 b8 b9 b10 b11 true b13 true false b16 x30 x32 x33 x35 x36 x37 x38 x39 x40 x7 V) (hsB : gs < B4) (h0B : g0 < B4) (h4B : g4 < B4) (hlB : ∀ q, (Value.slice a4 P.length k4).ownBlock = some q → q < B4) (hkB : L ≠ [] → ∀ x, ak = some x → x.block < B4) (hwB : w.heap.size ≤ B4) :
    ∃ (g : Nat) (V2 : World) (Q : List Ac) (a5 : Option Addr) (k5 : Nat) (dd : Int), x7 = .pointer (some ⟨g, 0, none⟩) ∧ x39 = .agg (lgA a5 Q.length k5 dd) ∧ (Instr.storeAt 25 (.pointer (some ⟨g, 0, none⟩)) x39).run Tryd.prog V = .ok () V2 ∧ K7 w gs g0 g4 ak ck L B1 a4 k4 P cc k0 B4 b2 b4 b5 b7 b8 b9 b10 b11 true b13 true true b16 x30 x32 x33 x35 x36 x37 x38 x39 x40 x7 V2 := by
  obtain rfl := h.o12 rfl
  obtain rfl := h.o11 rfl
  obtain ⟨g, rfl, h2, h3, h4, -⟩ := h.f7 rfl
  obtain ⟨Q, dd, e, a5, k5, rfl, h5, h6⟩ := h.f38 rfl
  obtain ⟨u, v, h7, rfl⟩ := h.f39 rfl
  simp only [Value.tuple.injEq, Array.mk.injEq, List.cons.injEq, and_true] at h7
  obtain ⟨rfl, rfl⟩ := h7
  have hst := store_lg (a' := a5) (n' := Q.length) (k' := k5) (c' := dd) (h3 rfl)
  have hbt : But g V (V.setRow g (lgA a5 Q.length k5 dd)) := But.setRow V _
  have hne := h4 rfl Q.length dd e a5 k5 rfl
  refine ⟨g, _, Q, a5, k5, dd, rfl, rfl, hst.1, ⟨⟨h.ml.bel.trans (hbt.1.mono (by omega)), ns_but2 h.ml.ns hbt (by omega) (fun h8 x hx => by have := hkB h8 x hx; omega), h.ml.b0.but hbt (by omega), h.ml.b4.but hbt (by omega), own_eq h.ml.row fun q hq => hbt.2 q (World.ownsRow.lt h.ml.row q hq).2 (by have := hlB q hq; omega), h.ml.ne⟩, Nat.le_trans h.sz hbt.1.size, h.f30, h.f32, h.f33, h.f35, h.f36, h.f37, fun _ => ⟨Q, dd, e, a5, k5, rfl, own_eq h5 fun q hq => hbt.2 q (World.ownsRow.lt h5 q hq).2 (fun e => hne (e ▸ hq)), h6⟩, h.o10, h.o9, h.o5, h.o8, fun _ => rfl, fun _ => rfl, h.o13, h.f39, h.f40, fun _ => ⟨rfl, rfl⟩, h.o16, fun _ => ⟨g, rfl, h2, (fun e => nomatch e), h4, fun _ Q2 d2 e2 a2 k2 e3 => ?_⟩⟩⟩
  simp only [Value.tuple.injEq, Array.mk.injEq, List.cons.injEq, Value.agg.injEq, Value.slice.injEq, and_true] at e3
  obtain ⟨⟨⟨rfl, rfl, rfl⟩, e5⟩, -⟩ := e3
  cases e5
  exact hst.2
end
def MadL (w : World) (e : Ending) (w' : World) : Prop := ∃ ad kk P c, e = .returned (.agg (lgA ad (List.length P) kk c)) ∧ Cs w' ad (acc P) ∧ P.length ≤ kk ∧ LQ P c ∧ Below w.heap.size w w'
def MadS (w : World) (e : Ending) (w' : World) : Prop := ∃ ad kk P c, e = .returned (.agg (lgA ad (List.length P) kk c)) ∧ Cs w' ad (acc P) ∧ P.length ≤ kk ∧ LQ P c ∧ Below w.heap.size w w' ∧ P.length ≤ 10
set_option maxRecDepth 100000 in
set_option maxHeartbeats 8000000 in
theorem made_s (a : Option Addr) (c : Nat) (L : List Int) (w : World) (hc : Cs w a (icells L)) (hl : L.length ≤ 160) : Calls Tryd.prog 7 #[.slice a L.length c] w (MadS w) := by
  have hb0 : Below w.heap.size w (w.alloc (.cells (lgA none 0 0 0) 25)) := (Below.refl _ w).alloc (Nat.le_refl _) _
  have hX0 : Bx (w.alloc (.cells (lgA none 0 0 0) 25)) w.heap.size (lgA none 0 0 0) 25 := heap_alloc_last w _
  have HK : Hid (L ≠ [] → ∀ x, a = some x → x.block < w.heap.size) := Lib.hid fun hn x hx => by
    cases L with
    | nil => exact absurd rfl hn
    | cons y r =>
      obtain ⟨b, off, e, hb, -⟩ := hc 0 (.int .i64 y) rfl
      rw [hx] at e
      cases e
      exact hb
  have HC := Lib.hid (hc.below hb0)
  have HL := Lib.hid hl
  have HNL : Hid (L.length ≤ 100000) := Lib.hid (by omega)
  have hsz : (w.alloc (.cells (lgA none 0 0 0) 25)).heap.size = w.heap.size + 1 := by simp
  obtain ⟨n, hn⟩ : ∃ n, L.length = n := ⟨_, rfl⟩
  have HN := Lib.hid hn
  rw [hn]
  clear hc hl hn
  go_enter Tryd.func7, Tryd.ntmps7
  go_upto_region 1 with fail
  change Code.wp _ _ _ _ (w.alloc (.cells (lgA none 0 0 0) 25))
  generalize w.alloc (.cells (lgA none 0 0 0) 25) = W at *
  obtain ⟨g0, hg0⟩ : ∃ g0, w.heap.size = g0 := ⟨_, rfl⟩
  obtain ⟨gs, hgs⟩ : ∃ gs, W.heap.size = gs := ⟨_, rfl⟩
  have CF := mk_from a n c W
  have hb1 : Below W.heap.size W (W.alloc (.cells #[.slice a n c, .int .i64 0] 69)) := (Below.refl _ W).alloc (Nat.le_refl _) _
  have hS1 : Bx (W.alloc (.cells #[.slice a n c, .int .i64 0] 69)) W.heap.size #[.slice a n c, .int .i64 0] 69 := heap_alloc_last W _
  have hsz1 : (W.alloc (.cells #[.slice a n c, .int .i64 0] 69)).heap.size = W.heap.size + 1 := by simp
  obtain ⟨W1, hW1⟩ : ∃ W1, W.alloc (.cells #[.slice a n c, .int .i64 0] 69) = W1 := ⟨_, rfl⟩
  rw [hW1] at CF hb1 hS1 hsz1
  have HNS : Hid (NS W1 gs a c L 0) := Lib.hid ⟨0, Nat.le_refl _, by rw [HN.out, ← hgs]; exact hS1, HC.out.below hb1, fun hne x hx => by have := HK.out hne x hx; omega⟩
  have HX1 := Lib.hid (hX0.below hX0.lt hb1)
  have HB1 := Lib.hid (hb0.trans (hb1.mono hb0.size))
  have HGS : Hid (w.heap.size ≤ g0 ∧ g0 < gs ∧ w.heap.size ≤ gs ∧ gs < W1.heap.size ∧ W1.heap.size = gs + 1) := Lib.hid ⟨by omega, by omega, by omega, by omega, by omega⟩
  rw [hgs] at CF
  rw [hg0] at HX1
  simp only [hg0]
  clear hb0 hX0 hsz hb1 hS1 hsz1 HC hg0 hgs
  have HW1 := Lib.hid hW1
  clear hW1
  apply wp_region_lit
  refine gw_val (by kernel_rfl) (some 9) rfl (.slice a n c) (by kernel_rfl) ?_
  simp only [pu1, pu2, pu3, pu4]
  refine gw_call (by kernel_rfl) (some 10) rfl 15 #[.slice a n c] (.pointer (some ⟨gs, 0, none⟩)) (fun w' => W1 = w') (by kernel_rfl) (CF.mono fun e w' q => ⟨q.1, q.2.symm⟩) (fun W2 hW2 => ?_)
  subst hW2
  simp only [pu1, pu2, pu3, pu4]
  refine gw_val (by kernel_rfl) (some 3) rfl (.pointer (some ⟨gs, 0, none⟩)) (by kernel_rfl) ?_
  simp only [pu1, pu2, pu3, pu4]
  apply wpList_nil
  clear CF HW1
  have CA := mk_accounts HNS.out HNL.out (by decide)
  go_upto_region 2 with fail
  apply wp_region_lit
  refine gw_val (by kernel_rfl) (some 12) rfl (.pointer (some ⟨gs, 0, none⟩)) (by kernel_rfl) ?_
  simp only [pu1, pu2, pu3, pu4]
  refine gw_callE (by kernel_rfl) (some 13) rfl 17 #[.pointer (some ⟨gs, 0, none⟩)] (fun v w' => ∃ ra rc A, v = .slice ra (List.length A) rc ∧ RowA w' W1.heap.size (.slice ra A.length rc) A ∧ (∀ x, x ∈ A → AcQ x) ∧ A.length ≤ 4 ∧ NS w' gs a c L 13 ∧ But gs W1 w') (by kernel_rfl) (CA.mono fun e w' q => by obtain ⟨ra, rc, A, h1, h2, h3, h4, h5, h6⟩ := q; exact ⟨_, h1, ra, rc, A, rfl, h2, h3, h4, h5, h6⟩) (fun vv V2 hq => ?_)
  obtain ⟨ra, rc, A, rfl, hra, hqa, hla, hns2, hbt2⟩ := hq
  obtain ⟨a9, k9, e9, hca, -⟩ := hra.cs
  simp only [Value.slice.injEq, true_and] at e9
  obtain ⟨rfl, rfl⟩ := e9
  have hwA : AcW A := acw_of fun x hx => (hqa x hx).2
  have hzA : ∀ x, x ∈ A → x.1.size ≤ 20 := fun x hx => (hqa x hx).1.2
  have CG := ref_genesis ra rc A V2 hca (by omega) hwA (fun x hx => Nat.le_trans (hzA x hx) (by decide))
  have hlq := LQ.gen hwA hzA
  have hln := gen_len A
  generalize genY A = r at *
  obtain ⟨Q0, c0, e0⟩ := r
  simp only [pu1, pu2, pu3, pu4]
  refine gw_callE (by kernel_rfl) (some 14) rfl 16 #[.slice ra A.length rc] (fun v w' => ∃ ad k, v = .tuple #[.agg (lgA ad Q0.length k c0), .int .i64 e0] ∧ RowA w' V2.heap.size (.slice ad Q0.length k) Q0 ∧ Below V2.heap.size V2 w') (by kernel_rfl) (CG.mono fun e w' q => by obtain ⟨ad, k, h1, h2, h3⟩ := q; exact ⟨_, h1, ad, k, rfl, h2, h3⟩) (fun vv V3 hq => ?_)
  obtain ⟨a3, k3, rfl, hr4, hb3⟩ := hq
  obtain ⟨V4, hst4, hb4, hbx4⟩ := new_lg V3 a3 Q0.length k3 c0
  simp only [pu1, pu2, pu3, pu4]
  refine gw_val (by kernel_rfl) (some 11) rfl (.tuple #[.agg (lgA a3 Q0.length k3 c0), .int .i64 e0]) (by kernel_rfl) ?_
  simp only [pu1, pu2, pu3, pu4]
  refine gw_val (by kernel_rfl) (some 15) rfl (.agg (lgA a3 Q0.length k3 c0)) (by kernel_rfl) ?_
  simp only [pu1, pu2, pu3, pu4]
  refine gw_val (by kernel_rfl) (some 16) rfl (.int .i64 e0) (by kernel_rfl) ?_
  simp only [pu1, pu2, pu3, pu4]
  refine run_to rfl (some 4) rfl (.pointer (some ⟨V3.heap.size, 0, none⟩)) (V3.alloc (.cells (lgA none 0 0 0) 25)) (by kernel_rfl) ?_
  simp only [pu1, pu2, pu3, pu4]
  refine gw_store (by kernel_rfl) rfl 25 (.tmp 4) (.tmp 15) rfl (.pointer (some ⟨V3.heap.size, 0, none⟩)) (.agg (lgA a3 Q0.length k3 c0)) (by kernel_rfl) (by kernel_rfl) (V4) (hst4) ?_
  refine gw_val (by kernel_rfl) (some 5) rfl (.int .i64 e0) (by kernel_rfl) ?_
  simp only [pu1, pu2, pu3, pu4]
  apply wpList_nil
  obtain ⟨g4, hg4⟩ : ∃ g4, V3.heap.size = g4 := ⟨_, rfl⟩
  have hb24 := hb3.trans (hb4.mono hb3.size)
  have hs2 := hbt2.1.size
  have hs3 := hb3.size
  have HY : Hid (My w gs g0 g4 W1.heap.size a L) := Lib.hid ⟨by have := HGS.out; omega, by have := HGS.out; omega, by have := HGS.out; omega, HGS.out.2.2.2.1, by have := HGS.out; omega, HGS.out.2.2.1, HGS.out.1, by have := HGS.out; omega, by have := HGS.out; omega, HK.out⟩
  have HM4 : Hid (Ml w gs g0 g4 a c L W1.heap.size a3 k3 Q0 c0 13 V4) := Lib.hid ⟨HB1.out.trans ((hbt2.1.mono (by have := HGS.out; omega)).trans (hb24.mono (by have := HGS.out; omega))), hns2.below hb24, (HX1.out.but hbt2 (by have := HGS.out; omega)).below (by have := HX1.out.lt; omega) hb24, by rw [← hg4]; exact hbx4, own_base (own_below hr4 hb4) (by have := HGS.out; omega), fun e => by have := (World.ownsRow.lt hr4 _ e).2; omega⟩
  have HLQ : Hid (LQ Q0 c0) := Lib.hid hlq
  have HLN : Hid (Q0.length ≤ 4) := Lib.hid (Nat.le_trans hln hla)
  have HSZ : Hid (W1.heap.size ≤ V4.heap.size) := Lib.hid (by have := hb4.size; omega)
  rw [hg4]
  clear hln hb24 hs2 hs3 hbx4 hb4 hr4 hb3 hst4 hlq CG hqa hla hns2 hbt2 hca hwA hzA hra CA HNS HX1 HB1 hg4
  go_upto_region 3 with fail
  apply wp_region_lit
  refine gw_val (by kernel_rfl) (some 17) rfl (.pointer (some ⟨gs, 0, none⟩)) (by kernel_rfl) ?_
  simp only [pu1, pu2, pu3, pu4]
  refine gw_callE (by kernel_rfl) (some 18) rfl 18 #[.pointer (some ⟨gs, 0, none⟩), .int .i64 90] (fun v w' => ∃ q : Nat, v = .int .i64 q ∧ (q : Int) < 90 ∧ NS w' gs a c L (13 + 1) ∧ But gs V4 w') (by kernel_rfl) ((ns_next HM4.out.ns HNL.out (by omega) 90 (by decide) (by decide)).mono fun e w' z => by obtain ⟨q, h1, h2⟩ := z; exact ⟨_, h1, q, rfl, h2⟩) (fun vv V5 hq => ?_)
  obtain ⟨q5, rfl, hvq5, hnsq5, hbutq5⟩ := hq
  have hm5 := HM4.out.call HY.out hnsq5 hbutq5
  obtain ⟨V6, hst6, hbx6, hb6, hbt6⟩ := st_cell (i := 1) (cs' := lgA a3 Q0.length k3 (q5 : Int)) (v := .int .u64 (q5 : Nat)) (ty := 23) hm5.b4 (Below.refl V5.heap.size V5 |>.mono (Nat.zero_le _)) (Nat.zero_le _) (by simp) rfl (by kernel_rfl) rfl
  simp only [pu1, pu2, pu3, pu4]
  refine gw_val (by kernel_rfl) (some 19) rfl (.int .u64 (q5 : Nat)) (conv_i6 rfl q5 (by omega) (by kernel_rfl) _) ?_
  simp only [pu1, pu2, pu3, pu4]
  refine gw_val (by kernel_rfl) (some 20) rfl (.pointer (some ⟨g4, 1, none⟩)) (by kernel_rfl) ?_
  simp only [pu1, pu2, pu3, pu4]
  refine gw_store (by kernel_rfl) rfl 23 (.tmp 20) (.tmp 19) rfl (.pointer (some ⟨g4, 1, none⟩)) (.int .u64 (q5 : Nat)) (by kernel_rfl) (by kernel_rfl) (V6) (hst6) ?_
  apply wpList_nil
  have HM6 : Hid (Ml w gs g0 g4 a c L W1.heap.size a3 k3 Q0 q5 14 V6) := Lib.hid (hm5.put HY.out hbt6 hbx6 hm5.row hm5.ne)
  have HLQ6 : Hid (LQ Q0 q5) := Lib.hid ⟨HLQ.out.w, ⟨by omega, by omega⟩, HLQ.out.z, HLQ.out.l⟩
  have HSZ6 : Hid (W1.heap.size ≤ V6.heap.size) := Lib.hid (Nat.le_trans HSZ.out (Nat.le_trans hbutq5.1.size hbt6.1.size))
  clear hm5 hst6 hbx6 hb6 hbt6 HM4 HLQ HSZ hnsq5 hbutq5 hvq5
  go_upto_region 4 with fail
  apply wp_region_lit
  refine gw_val (by kernel_rfl) (some 21) rfl (.pointer (some ⟨gs, 0, none⟩)) (by kernel_rfl) ?_
  simp only [pu1, pu2, pu3, pu4]
  refine gw_callE (by kernel_rfl) (some 22) rfl 18 #[.pointer (some ⟨gs, 0, none⟩), .int .i64 4] (fun v w' => ∃ q : Nat, v = .int .i64 q ∧ (q : Int) < 4 ∧ NS w' gs a c L (14 + 1) ∧ But gs V6 w') (by kernel_rfl) ((ns_next HM6.out.ns HNL.out (by omega) 4 (by decide) (by decide)).mono fun e w' z => by obtain ⟨q, h1, h2⟩ := z; exact ⟨_, h1, q, rfl, h2⟩) (fun vv V7 hq => ?_)
  obtain ⟨q6, rfl, hvq6, hnsq6, hbutq6⟩ := hq
  simp only [pu1, pu2, pu3, pu4]
  refine gw_val (by kernel_rfl) (some 6) rfl (.int .i64 (q6 : Nat)) (by kernel_rfl) ?_
  simp only [pu1, pu2, pu3, pu4]
  apply wpList_nil
  have HS0 : Hid (∃ (a3 : Option Addr) (k3 : Nat) (Q0 : List Ac) (cc : Int) (k : Nat), Ml w gs g0 g4 a c L W1.heap.size a3 k3 Q0 cc k V7 ∧ LQ Q0 cc ∧ (k + 10 * q6 ≤ 100 ∧ Q0.length + q6 ≤ 10) ∧ W1.heap.size ≤ V7.heap.size) := Lib.hid ⟨a3, k3, Q0, _, 15, HM6.out.call HY.out hnsq6 hbutq6, HLQ6.out, ⟨by omega, by have := HLN.out; omega⟩, Nat.le_trans HSZ6.out hbutq6.1.size⟩
  clear HM6 HLQ6 HSZ6 hnsq6 hbutq6
  go_wp2_with fail
  go_loopg [6] q6 (fun gg s6 wx => ∃ i : Nat, s6 = .int .i64 i ∧ Hid (∃ (a3 : Option Addr) (k3 : Nat) (Q0 : List Ac) (cc : Int) (k : Nat), Ml w gs g0 g4 a c L W1.heap.size a3 k3 Q0 cc k wx ∧ LQ Q0 cc ∧ (k + 10 * i ≤ 100 ∧ Q0.length + i ≤ 10) ∧ W1.heap.size ≤ wx.heap.size) ∧ i = gg)
  case atStart => exact ⟨q6, rfl, HS0, rfl⟩
  case round =>
    clear HS0
    obtain ⟨i, rfl, HS, hg⟩ := hrel
    have HG := Lib.hid hg
    clear hg
    obtain ⟨a4, k4, P, cc, k, hm, hq, hk, hs⟩ := HS.out
    have HM := Lib.hid hm
    have HQ := Lib.hid hq
    have HKB : Hid (k + 10 * i ≤ 100) := Lib.hid hk.1
    have HPL : Hid (P.length + i ≤ 10) := Lib.hid hk.2
    have HSZ : Hid (W1.heap.size ≤ wr.heap.size) := Lib.hid hs
    clear hm hq hk hs HS
    by_cases hpos : 0 < i
    · skip
      go_upto_region 5 with fail
      apply wp_region_lit
      refine gw_val (by kernel_rfl) (some 23) rfl (.int .i64 i) (by kernel_rfl) ?_
      simp only [pu1, pu2, pu3, pu4]
      refine gw_val (by kernel_rfl) (some 24) rfl (.bool true) (gtr_n rfl (i) (0) (decide_eq_true (by omega)) (by kernel_rfl) (by kernel_rfl) _) ?_
      simp only [pu1, pu2, pu3, pu4]
      apply wpList_nil
      obtain ⟨m, hmm⟩ : ∃ m, P.length = m := ⟨_, rfl⟩
      have HMM := Lib.hid hmm
      have hLB : ∀ q, (Value.slice a4 P.length k4).ownBlock = some q → q < wr.heap.size := fun q hq => (World.ownsRow.lt HM.out.row q hq).2
      have HLB := Lib.hid hLB
      have HG4 : Hid (g4 < wr.heap.size ∧ gs < wr.heap.size ∧ g0 < wr.heap.size ∧ w.heap.size ≤ wr.heap.size) := Lib.hid ⟨HM.out.b4.lt, HM.out.ns.lt, HM.out.b0.lt, HM.out.bel.size⟩
      have h0 : K7 w gs g0 g4 a c L W1.heap.size a4 k4 P cc k wr.heap.size false false false false false false false false false false false false false u30 u32 u33 u35 u36 u37 u38 u39 u40 u7 wr.drew := ⟨by exact (HM.out.below (Below.refl _ wr).drew), Nat.le_refl _, (fun e => nomatch e), (fun e => nomatch e), (fun e => nomatch e), (fun e => nomatch e), (fun e => nomatch e), (fun e => nomatch e), (fun e => nomatch e), (fun e => nomatch e), (fun e => nomatch e), (fun e => nomatch e), (fun e => nomatch e), (fun e => nomatch e), (fun e => nomatch e), (fun e => nomatch e), (fun e => nomatch e), (fun e => nomatch e), (fun e => nomatch e), (fun e => nomatch e), (fun e => nomatch e)⟩
      clear hmm hLB
      go_upto_region 7 with fail
      refine wp_region_inv (fun listed act9 V => ∃ b0 b1 b2 b3 b4 b5 b6 b7 b8 b9 b10 b11 b12 b13 b14 b15 b16 : Bool, ∃ x30 x32 x33 x35 x36 x37 x38 x39 x40 x7 : Value, listed = #[b0, b1, b2, b3, b4, b5, b6, b7, b8, b9, b10, b11, b12, b13, b14, b15, b16] ∧ act9 = { tmps := #[.slice a n c, undef, .pointer (some ⟨g0, 0, none⟩), .pointer (some ⟨gs, 0, none⟩), .pointer (some ⟨g4, 0, none⟩), .int .i64 e0, .int .i64 i, x7, (cond b16 (x40) (u8)), .slice a n c, .pointer (some ⟨gs, 0, none⟩), .tuple #[.agg (lgA a3 Q0.length k3 c0), .int .i64 e0], .pointer (some ⟨gs, 0, none⟩), .slice ra A.length rc, .tuple #[.agg (lgA a3 Q0.length k3 c0), .int .i64 e0], .agg (lgA a3 Q0.length k3 c0), .int .i64 e0, .pointer (some ⟨gs, 0, none⟩), .int .i64 (q5 : Nat), .int .u64 (q5 : Nat), .pointer (some ⟨g4, 1, none⟩), .pointer (some ⟨gs, 0, none⟩), .int .i64 (q6 : Nat), .int .i64 i, .bool true, u25, u26, (cond b11 (x38) (u27)), (cond b0 (.agg (lgA a4 P.length k4 cc)) (u28)), (cond b1 (.pointer (some ⟨gs, 0, none⟩)) (u29)), x30, (cond b3 (.pointer (some ⟨gs, 0, none⟩)) (u31)), x32, x33, (cond b6 (.pointer (some ⟨gs, 0, none⟩)) (u34)), x35, x36, x37, x38, x39, x40, u41, u42, u43, undef], defers := [] } ∧ K7 w gs g0 g4 a c L W1.heap.size a4 k4 P cc k wr.heap.size b2 b4 b5 b7 b8 b9 b10 b11 b12 b13 b14 b15 b16 x30 x32 x33 x35 x36 x37 x38 x39 x40 x7 V) (by kernel_rfl) (by kernel_rfl) ?_ ?_ ?_
      · exact ⟨false, false, false, false, false, false, false, false, false, false, false, false, false, false, false, false, false, u30, u32, u33, u35, u36, u37, u38, u39, u40, u7, rfl, rfl, h0⟩
      · intro i9 listed act9 V hi9 hr hJ
        obtain ⟨b0, b1, b2, b3, b4, b5, b6, b7, b8, b9, b10, b11, b12, b13, b14, b15, b16, x30, x32, x33, x35, x36, x37, x38, x39, x40, x7, rfl, rfl, hF⟩ := hJ
        have hi2 : i9 < 17 := hi9
        have hi3 : i9 = 0 ∨ i9 = 1 ∨ i9 = 2 ∨ i9 = 3 ∨ i9 = 4 ∨ i9 = 5 ∨ i9 = 6 ∨ i9 = 7 ∨ i9 = 8 ∨ i9 = 9 ∨ i9 = 10 ∨ i9 = 11 ∨ i9 = 12 ∨ i9 = 13 ∨ i9 = 14 ∨ i9 = 15 ∨ i9 = 16 := by omega
        rcases hi3 with rfl | rfl | rfl | rfl | rfl | rfl | rfl | rfl | rfl | rfl | rfl | rfl | rfl | rfl | rfl | rfl | rfl
        · obtain rfl : b0 = false := ready_self hr
          refine st_load rfl (by kernel_rfl) (some 28) rfl 25 (.tmp 4) rfl ⟨g4, 0, none⟩ (.agg (lgA a4 P.length k4 cc)) (by kernel_rfl) (load_lg hF.ml.b4) ?_
          exact ⟨true, b1, b2, b3, b4, b5, b6, b7, b8, b9, b10, b11, b12, b13, b14, b15, b16, x30, x32, x33, x35, x36, x37, x38, x39, x40, x7, rfl, rfl, hF⟩
        · obtain rfl : b1 = false := ready_self hr
          refine st_val rfl (by kernel_rfl) (some 29) rfl (.pointer (some ⟨gs, 0, none⟩)) V (by kernel_rfl) ?_
          exact ⟨b0, true, b2, b3, b4, b5, b6, b7, b8, b9, b10, b11, b12, b13, b14, b15, b16, x30, x32, x33, x35, x36, x37, x38, x39, x40, x7, rfl, rfl, hF⟩
        · obtain rfl : b2 = false := ready_self hr
          obtain rfl : b1 = true := ready_dep hr 1 (by kernel_rfl)
          obtain rfl : b10 = false := by cases b10; rfl; exact absurd ((hF.o9 (hF.o10 rfl)).1) (by decide)
          refine st_call rfl (by kernel_rfl) (some 30) rfl 20 #[.pointer (some ⟨gs, 0, none⟩)] (by kernel_rfl) ((mk_name hF.ml.ns HNL.out (by have := HKB.out; have := Bool.toNat_le b4; have := Bool.toNat_le b7; simp only [Bool.toNat_false]; omega)).mono fun e w' z => ?_)
          obtain ⟨s, rfl, hqs, hns, hbt⟩ := z
          exact ⟨_, rfl, b0, true, true, b3, b4, b5, b6, b7, b8, b9, false, b11, b12, b13, b14, b15, b16, _, _, _, _, _, _, _, _, _, _, rfl, rfl, hF.draw HY.out HG4.out.2.1 (c2 := true) (c4 := b4) (c7 := b7) (fun _ => rfl) (fun e => e) (fun e => e) (by have := hns; simp only [Bool.toNat_true, Bool.toNat_false] at this ⊢; refine NS.mono this (by omega)) hbt (fun _ => ⟨s, rfl, hqs.2⟩) hF.f32 hF.f35⟩
        · obtain rfl : b3 = false := ready_self hr
          refine st_val rfl (by kernel_rfl) (some 31) rfl (.pointer (some ⟨gs, 0, none⟩)) V (by kernel_rfl) ?_
          exact ⟨b0, b1, b2, true, b4, b5, b6, b7, b8, b9, b10, b11, b12, b13, b14, b15, b16, x30, x32, x33, x35, x36, x37, x38, x39, x40, x7, rfl, rfl, hF⟩
        · obtain rfl : b4 = false := ready_self hr
          obtain rfl : b3 = true := ready_dep hr 3 (by kernel_rfl)
          obtain rfl : b10 = false := by cases b10; rfl; exact absurd (hF.o5 (hF.o9 (hF.o10 rfl)).2.1) (by decide)
          refine st_call rfl (by kernel_rfl) (some 32) rfl 18 #[.pointer (some ⟨gs, 0, none⟩), .int .i64 70] (by kernel_rfl) ((ns_next hF.ml.ns HNL.out (by have := HKB.out; have := Bool.toNat_le b2; have := Bool.toNat_le b7; simp only [Bool.toNat_false]; omega) 70 (by decide) (by decide)).mono fun e w' z => ?_)
          obtain ⟨q, rfl, hqq, hns, hbt⟩ := z
          exact ⟨_, rfl, b0, b1, b2, true, true, b5, b6, b7, b8, b9, false, b11, b12, b13, b14, b15, b16, _, _, _, _, _, _, _, _, _, _, rfl, rfl, hF.draw HY.out HG4.out.2.1 (c2 := b2) (c4 := true) (c7 := b7) (fun e => e) (fun _ => rfl) (fun e => e) (by have := hns; simp only [Bool.toNat_true, Bool.toNat_false] at this ⊢; refine NS.mono this (by omega)) hbt hF.f30 (fun _ => ⟨q, rfl, by omega⟩) hF.f35⟩
        · obtain rfl : b5 = false := ready_self hr
          obtain rfl : b4 = true := ready_dep hr 4 (by kernel_rfl)
          obtain ⟨q, rfl, hqq⟩ := hF.f32 rfl
          refine st_val rfl (by kernel_rfl) (some 33) rfl (.int .u64 q) V (conv_i6 rfl q (by omega) (by kernel_rfl) _) ?_
          exact ⟨b0, b1, b2, b3, true, true, b6, b7, b8, b9, b10, b11, b12, b13, b14, b15, b16, _, _, _, _, _, _, _, _, _, _, rfl, rfl, { hF with f33 := fun _ => ⟨q, rfl, hqq⟩, o5 := fun _ => rfl, o9 := fun e => ⟨(hF.o9 e).1, rfl, (hF.o9 e).2.2⟩ }⟩
        · obtain rfl : b6 = false := ready_self hr
          refine st_val rfl (by kernel_rfl) (some 34) rfl (.pointer (some ⟨gs, 0, none⟩)) V (by kernel_rfl) ?_
          exact ⟨b0, b1, b2, b3, b4, b5, true, b7, b8, b9, b10, b11, b12, b13, b14, b15, b16, x30, x32, x33, x35, x36, x37, x38, x39, x40, x7, rfl, rfl, hF⟩
        · obtain rfl : b7 = false := ready_self hr
          obtain rfl : b6 = true := ready_dep hr 6 (by kernel_rfl)
          obtain rfl : b10 = false := by cases b10; rfl; exact absurd (hF.o8 (hF.o9 (hF.o10 rfl)).2.2) (by decide)
          refine st_call rfl (by kernel_rfl) (some 35) rfl 18 #[.pointer (some ⟨gs, 0, none⟩), .int .i64 4] (by kernel_rfl) ((ns_next hF.ml.ns HNL.out (by have := HKB.out; have := Bool.toNat_le b2; have := Bool.toNat_le b4; simp only [Bool.toNat_false]; omega) 4 (by decide) (by decide)).mono fun e w' z => ?_)
          obtain ⟨q, rfl, hqq, hns, hbt⟩ := z
          exact ⟨_, rfl, b0, b1, b2, b3, b4, b5, true, true, b8, b9, false, b11, b12, b13, b14, b15, b16, _, _, _, _, _, _, _, _, _, _, rfl, rfl, hF.draw HY.out HG4.out.2.1 (c2 := b2) (c4 := b4) (c7 := true) (fun e => e) (fun e => e) (fun _ => rfl) (by have := hns; simp only [Bool.toNat_true, Bool.toNat_false] at this ⊢; refine NS.mono this (by omega)) hbt hF.f30 hF.f32 (fun _ => ⟨q, rfl, by omega⟩)⟩
        · obtain rfl : b8 = false := ready_self hr
          obtain rfl : b7 = true := ready_dep hr 7 (by kernel_rfl)
          obtain ⟨q, rfl, hqq⟩ := hF.f35 rfl
          refine st_val rfl (by kernel_rfl) (some 36) rfl (.int .u64 q) V (conv_i6 rfl q (by omega) (by kernel_rfl) _) ?_
          exact ⟨b0, b1, b2, b3, b4, b5, b6, true, true, b9, b10, b11, b12, b13, b14, b15, b16, _, _, _, _, _, _, _, _, _, _, rfl, rfl, { hF with f36 := fun _ => ⟨q, rfl, hqq⟩, o8 := fun _ => rfl, o9 := fun e => ⟨(hF.o9 e).1, (hF.o9 e).2.1, rfl⟩ }⟩
        · obtain rfl : b9 = false := ready_self hr
          obtain rfl : b2 = true := ready_dep hr 2 (by kernel_rfl)
          obtain rfl : b5 = true := ready_dep hr 5 (by kernel_rfl)
          obtain rfl : b8 = true := ready_dep hr 8 (by kernel_rfl)
          obtain ⟨s, rfl, hs20⟩ := hF.f30 rfl
          obtain ⟨q1, rfl, hq1⟩ := hF.f33 rfl
          obtain ⟨q2, rfl, hq2⟩ := hF.f36 rfl
          refine st_val rfl (by kernel_rfl) (some 37) rfl (.agg (acA (s, (q1 : Int), (q2 : Int)))) V (by kernel_rfl) ?_
          exact ⟨b0, b1, true, b3, b4, true, b6, b7, true, true, b10, b11, b12, b13, b14, b15, b16, _, _, _, _, _, _, _, _, _, _, rfl, rfl, { hF with f37 := fun _ => ⟨(s, (q1 : Int), (q2 : Int)), rfl, hs20, ⟨by show (0 : Int) ≤ q1; omega, by show (q1 : Int) ≤ _; omega⟩, ⟨by show (0 : Int) ≤ q2; omega, by show (q2 : Int) ≤ _; omega⟩⟩, o9 := fun _ => ⟨rfl, rfl, rfl⟩, o10 := fun _ => rfl }⟩
        · obtain rfl : b10 = false := ready_self hr
          obtain rfl : b0 = true := ready_dep hr 0 (by kernel_rfl)
          obtain rfl : b9 = true := ready_dep hr 9 (by kernel_rfl)
          obtain rfl : b11 = false := ff hF.o11 rfl
          obtain ⟨y, rfl, hy20, hyw⟩ := hF.f37 rfl
          refine st_call rfl (by kernel_rfl) (some 38) rfl 19 #[.agg (lgA a4 P.length k4 cc), .agg (acA y)] (by kernel_rfl) ((ref_set a4 k4 P cc y V (by obtain ⟨a9, k9, e9, h4, h5⟩ := own_cs hF.ml.row; simp only [Value.slice.injEq, true_and] at e9; obtain ⟨rfl, rfl⟩ := e9; exact h4) (by obtain ⟨a9, k9, e9, h4, h5⟩ := own_cs hF.ml.row; simp only [Value.slice.injEq, true_and] at e9; obtain ⟨rfl, rfl⟩ := e9; exact h5) (by have := HQ.out.l; omega) HQ.out.c HQ.out.w HQ.out.z2 hyw (by omega)).mono fun e w' z => ?_)
          have hlq := LQ.set HQ.out hy20 hyw
          have hln := set_len P cc y
          generalize setX P cc y = r at *
          obtain ⟨Q, dd, er⟩ := r
          obtain ⟨a5, k5, rfl, hr5, hb5⟩ := z
          exact ⟨_, rfl, true, b1, b2, b3, b4, b5, b6, b7, b8, true, true, false, b12, b13, b14, b15, b16, _, _, _, _, _, _, _, _, _, _, rfl, rfl, hF.call hb5 hr5 ⟨hlq, hln⟩⟩
        · obtain rfl : b11 = false := ready_self hr
          obtain rfl : b10 = true := ready_dep hr 10 (by kernel_rfl)
          obtain rfl : b12 = false := ff hF.o12 rfl
          obtain rfl : b13 = false := ff hF.o13 rfl
          refine st_val rfl (by kernel_rfl) (some 27) rfl x38 V (by kernel_rfl) ?_
          exact ⟨b0, b1, b2, b3, b4, b5, b6, b7, b8, b9, true, true, false, false, b14, b15, b16, x30, x32, x33, x35, x36, x37, x38, x39, x40, x7, rfl, rfl, { hF with o11 := fun _ => rfl, o12 := fun e => (nomatch e), o13 := fun e => (nomatch e) }⟩
        · obtain rfl : b12 = false := ready_self hr
          obtain rfl : b11 = true := ready_dep hr 11 (by kernel_rfl)
          obtain rfl : b15 = false := ff (fun e => (hF.o15 e).1) rfl
          obtain rfl := hF.o11 rfl
          obtain ⟨Q, dd, er, a5, k5, rfl, h5, h6⟩ := hF.f38 rfl
          refine st_val rfl (by kernel_rfl) (some 39) rfl (.agg (lgA a5 Q.length k5 dd)) V (by kernel_rfl) ?_
          exact ⟨b0, b1, b2, b3, b4, b5, b6, b7, b8, b9, true, true, true, b13, b14, false, b16, _, _, _, _, _, _, _, _, _, _, rfl, rfl, { hF with f39 := fun _ => ⟨_, _, rfl, rfl⟩, o12 := fun _ => rfl, o15 := fun e => (nomatch e) }⟩
        · obtain rfl : b13 = false := ready_self hr
          obtain rfl : b11 = true := ready_dep hr 11 (by kernel_rfl)
          obtain rfl : b16 = false := ff hF.o16 rfl
          obtain rfl := hF.o11 rfl
          obtain ⟨Q, dd, er, a5, k5, rfl, h5, h6⟩ := hF.f38 rfl
          refine st_val rfl (by kernel_rfl) (some 40) rfl (.int .i64 er) V (by kernel_rfl) ?_
          exact ⟨b0, b1, b2, b3, b4, b5, b6, b7, b8, b9, true, true, b12, true, b14, b15, false, _, _, _, _, _, _, _, _, _, _, rfl, rfl, { hF with f40 := fun _ => ⟨_, _, rfl, rfl⟩, o13 := fun _ => rfl, o16 := fun e => (nomatch e) }⟩
        · obtain rfl : b14 = false := ready_self hr
          refine st_val rfl (by kernel_rfl) (some 7) rfl (.pointer (some ⟨V.heap.size, 0, none⟩)) (V.alloc (.cells (lgA none 0 0 0) 25)) (by kernel_rfl) ?_
          exact ⟨b0, b1, b2, b3, b4, b5, b6, b7, b8, b9, b10, b11, b12, b13, true, b15, b16, _, _, _, _, _, _, _, _, _, _, rfl, rfl, hF.alloc⟩
        · obtain rfl : b15 = false := ready_self hr
          obtain rfl : b12 = true := ready_dep hr 12 (by kernel_rfl)
          obtain rfl : b14 = true := ready_dep hr 14 (by kernel_rfl)
          obtain ⟨g9, V2, Q, a5, k5, dd, rfl, rfl, hst, hF2⟩ := hF.store HG4.out.2.1 HG4.out.2.2.1 HG4.out.1 HLB.out (fun h5 x hx => Nat.lt_of_lt_of_le (HY.out.hk h5 x hx) HG4.out.2.2.2) HG4.out.2.2.2
          refine st_storeA rfl (by kernel_rfl) rfl 25 (.tmp 7) (.tmp 39) rfl (.pointer (some ⟨g9, 0, none⟩)) (.agg (lgA a5 Q.length k5 dd)) (by kernel_rfl) (by kernel_rfl) _ hst ?_
          exact ⟨b0, b1, b2, b3, b4, b5, b6, b7, b8, b9, b10, b11, true, b13, true, true, b16, _, _, _, _, _, _, _, _, _, _, rfl, rfl, hF2⟩
        · obtain rfl : b16 = false := ready_self hr
          obtain rfl : b13 = true := ready_dep hr 13 (by kernel_rfl)
          refine st_val rfl (by kernel_rfl) (some 8) rfl x40 V (by kernel_rfl) ?_
          exact ⟨b0, b1, b2, b3, b4, b5, b6, b7, b8, b9, b10, b11, b12, true, b14, b15, true, x30, x32, x33, x35, x36, x37, x38, x39, x40, x7, rfl, rfl, { hF with o16 := fun _ => rfl }⟩
      · intro act9 V hJ
        obtain ⟨b0, b1, b2, b3, b4, b5, b6, b7, b8, b9, b10, b11, b12, b13, b14, b15, b16, x30, x32, x33, x35, x36, x37, x38, x39, x40, x7, he, rfl, hF⟩ := hJ
        have he : (#[true, true, true, true, true, true, true, true, true, true, true, true, true, true, true, true, true] : Array Bool) = #[b0, b1, b2, b3, b4, b5, b6, b7, b8, b9, b10, b11, b12, b13, b14, b15, b16] := he
        simp only [Array.mk.injEq, List.cons.injEq, and_true] at he
        obtain ⟨rfl, rfl, rfl, rfl, rfl, rfl, rfl, rfl, rfl, rfl, rfl, rfl, rfl, rfl, rfl, rfl, rfl⟩ := he
        simp only [cond_true]
        obtain ⟨g9, rfl, hg9, -, hne9, hbx9⟩ := hF.f7 rfl
        obtain ⟨Q, dd, er, a5, k5, rfl, h5, h6⟩ := hF.f38 rfl
        obtain ⟨u1, u2, h7, rfl⟩ := hF.f40 rfl
        simp only [Value.tuple.injEq, Array.mk.injEq, List.cons.injEq, and_true] at h7
        obtain ⟨-, rfl⟩ := h7
        have HX9 := Lib.hid (hbx9 rfl Q.length dd er a5 k5 rfl)
        have HR9 := Lib.hid h5
        have HQ9 := Lib.hid h6.1
        have HN9 : Hid (Q.length + (i - 1) ≤ 10) := Lib.hid (by have := h6.2; have := HPL.out; omega)
        have HM9 : Hid (Ml w gs g0 g4 a c L W1.heap.size a4 k4 P cc (k + 3) V) := Lib.hid hF.ml
        have HSZ9 : Hid (W1.heap.size ≤ V.heap.size) := Lib.hid (Nat.le_trans HSZ.out hF.sz)
        have HI : Hid (k + 3 + 10 * (i - 1) ≤ 100 ∧ i ≤ 10) := Lib.hid (by have := HKB.out; omega)
        have HQ8 := HQ
        clear hF h0 h5 h6 hbx9 hne9 HM HKB
        go_upto_region 8 with fail
        by_cases her : er = 0
        · skip
          apply wp_region_lit
          refine gw_val (by kernel_rfl) (some 41) rfl (.int .i64 er) (by kernel_rfl) ?_
          simp only [pu1, pu2, pu3, pu4]
          refine gw_val (by kernel_rfl) (some 42) rfl (.bool true) (eql_e rfl er 0 (decide_eq_true her) (by kernel_rfl) (by kernel_rfl) _) ?_
          simp only [pu1, pu2, pu3, pu4]
          apply wpList_nil
          have hst := store_lg (a' := a5) (n' := Q.length) (k' := k5) (c' := dd) HM9.out.b4
          have hbt := But.setRow V (g := g4) (lgA a5 Q.length k5 dd)
          have HS9 : Hid (∃ (a4 : Option Addr) (k4 : Nat) (P : List Ac) (cc : Int) (k : Nat), Ml w gs g0 g4 a c L W1.heap.size a4 k4 P cc k (V.setRow g4 (lgA a5 Q.length k5 dd)) ∧ LQ P cc ∧ (k + 10 * (i - 1) ≤ 100 ∧ P.length + (i - 1) ≤ 10) ∧ W1.heap.size ≤ (V.setRow g4 (lgA a5 Q.length k5 dd)).heap.size) := Lib.hid ⟨a5, k5, Q, dd, k + 3, HM9.out.put HY.out hbt hst.2 (own_base HR9.out HSZ.out) (fun e => by have := (World.ownsRow.lt HR9.out _ e).1; have := HG4.out.1; omega), HQ9.out, ⟨HI.out.1, HN9.out⟩, Nat.le_trans HSZ9.out hbt.1.size⟩
          have hst1 := hst.1
          generalize V.setRow g4 (lgA a5 Q.length k5 dd) = V9 at *
          clear hst hbt HM9 HR9 HQ9
          go_upto_region 9 with fail
          apply wp_region_lit
          refine gw_load (by kernel_rfl) (some 43) rfl 25 (.tmp 7) rfl ⟨g9, 0, none⟩ (.agg (lgA a5 Q.length k5 dd)) (by kernel_rfl) (load_lg HX9.out) ?_
          simp only [pu1, pu2, pu3, pu4]
          refine gw_store (by kernel_rfl) rfl 25 (.tmp 4) (.tmp 43) rfl (.pointer (some ⟨g4, 0, none⟩)) (.agg (lgA a5 Q.length k5 dd)) (by kernel_rfl) (by kernel_rfl) (V9) (hst1) ?_
          apply wpList_nil
          clear hst1 HX9
          go_upto_region 6 with fail
          apply wp_region_lit
          refine gw_val (by kernel_rfl) (some 25) rfl (.int .i64 i) (by kernel_rfl) ?_
          simp only [pu1, pu2, pu3, pu4]
          refine gw_val (by kernel_rfl) (some 26) rfl (.int .i64 (i - 1 : Nat)) (sub_1 rfl i hpos (by have := HI.out; omega) (by kernel_rfl) (by kernel_rfl) _) ?_
          simp only [pu1, pu2, pu3, pu4]
          refine gw_val (by kernel_rfl) (some 6) rfl (.int .i64 (i - 1 : Nat)) (by kernel_rfl) ?_
          simp only [pu1, pu2, pu3, pu4]
          apply wpList_nil
          go_wp2_with fail
          go_roundg (i - 1)
          case measure => have := HG.out; omega
          case rel => exact ⟨i - 1, rfl, HS9, rfl⟩
        · skip
          apply wp_region_lit
          refine gw_val (by kernel_rfl) (some 41) rfl (.int .i64 er) (by kernel_rfl) ?_
          simp only [pu1, pu2, pu3, pu4]
          refine gw_val (by kernel_rfl) (some 42) rfl (.bool false) (eql_e rfl er 0 (decide_eq_false her) (by kernel_rfl) (by kernel_rfl) _) ?_
          simp only [pu1, pu2, pu3, pu4]
          apply wpList_nil
          have HS9 : Hid (∃ (a4 : Option Addr) (k4 : Nat) (P : List Ac) (cc : Int) (k : Nat), Ml w gs g0 g4 a c L W1.heap.size a4 k4 P cc k V ∧ LQ P cc ∧ (k + 10 * (i - 1) ≤ 100 ∧ P.length + (i - 1) ≤ 10) ∧ W1.heap.size ≤ V.heap.size) := Lib.hid ⟨a4, k4, P, cc, k + 3, HM9.out, HQ8.out, ⟨HI.out.1, by have := HPL.out; omega⟩, HSZ9.out⟩
          clear HM9 HR9 HQ9 HX9
          go_upto_region 6 with fail
          apply wp_region_lit
          refine gw_val (by kernel_rfl) (some 25) rfl (.int .i64 i) (by kernel_rfl) ?_
          simp only [pu1, pu2, pu3, pu4]
          refine gw_val (by kernel_rfl) (some 26) rfl (.int .i64 (i - 1 : Nat)) (sub_1 rfl i hpos (by have := HI.out; omega) (by kernel_rfl) (by kernel_rfl) _) ?_
          simp only [pu1, pu2, pu3, pu4]
          refine gw_val (by kernel_rfl) (some 6) rfl (.int .i64 (i - 1 : Nat)) (by kernel_rfl) ?_
          simp only [pu1, pu2, pu3, pu4]
          apply wpList_nil
          go_wp2_with fail
          go_roundg (i - 1)
          case measure => have := HG.out; omega
          case rel => exact ⟨i - 1, rfl, HS9, rfl⟩
    · skip
      obtain ⟨a9, k9, e9, hc9, hk9⟩ := own_cs HM.out.row
      simp only [Value.slice.injEq, true_and] at e9
      obtain ⟨rfl, rfl⟩ := e9
      have hst := store_lg (a' := a4) (n' := P.length) (k' := k4) (c' := cc) HM.out.b0
      have hbt := But.setRow wr (g := g0) (lgA a4 P.length k4 cc)
      have hrow : (wr.setRow g0 (lgA a4 P.length k4 cc)).ownsRow W1.heap.size 37 3 (.slice a4 P.length k4) P.length (acc P) := own_but HM.out.row hbt HY.out.zB
      obtain ⟨a8, k8, e8, hc8, hk8⟩ := own_cs hrow
      simp only [Value.slice.injEq, true_and] at e8
      obtain ⟨rfl, rfl⟩ := e8
      have HE : Hid (MadS w (.returned (.agg (lgA a4 P.length k4 cc))) (wr.setRow g0 (lgA a4 P.length k4 cc))) := Lib.hid ⟨a4, k4, P, cc, rfl, hc8, hk8, HQ.out, HM.out.bel.trans (hbt.1.mono HY.out.w0), by have := HPL.out; omega⟩
      have HLD := Lib.hid (load_lg hst.2)
      have hst1 := hst.1
      have HX4 := Lib.hid HM.out.b4
      generalize wr.setRow g0 (lgA a4 P.length k4 cc) = V9 at *
      clear hst hbt hrow hc8 hk8 hc9 hk9 HM
      go_upto_region 5 with fail
      apply wp_region_lit
      refine gw_val (by kernel_rfl) (some 23) rfl (.int .i64 i) (by kernel_rfl) ?_
      simp only [pu1, pu2, pu3, pu4]
      refine gw_val (by kernel_rfl) (some 24) rfl (.bool false) (gtr_n rfl (i) (0) (decide_eq_false (by omega)) (by kernel_rfl) (by kernel_rfl) _) ?_
      simp only [pu1, pu2, pu3, pu4]
      apply wpList_nil
      go_upto_region 10 with fail
      apply wp_region_lit
      refine gw_load (by kernel_rfl) (some 44) rfl 25 (.tmp 4) rfl ⟨g4, 0, none⟩ (.agg (lgA a4 P.length k4 cc)) (by kernel_rfl) (load_lg HX4.out) ?_
      simp only [pu1, pu2, pu3, pu4]
      refine gw_store (by kernel_rfl) rfl 25 (.tmp 2) (.tmp 44) rfl (.pointer (some ⟨g0, 0, none⟩)) (.agg (lgA a4 P.length k4 cc)) (by kernel_rfl) (by kernel_rfl) (V9) (hst1) ?_
      apply wpList_nil
      clear hst1 HX4
      go_wp2_with fail
      exact bodyPost_ret (results_1c (p := 2) rfl (by kernel_rfl) HLD.out) rfl HE.out
theorem made_any (a : Option Addr) (c : Nat) (L : List Int) (w : World) (hc : Cs w a (icells L)) (hl : L.length ≤ 160) : Calls Tryd.prog 7 #[.slice a L.length c] w (MadL w) := (made_s a c L w hc hl).mono fun e w' q => by
  obtain ⟨ad, kk, P, c, h1, h2, h3, h4, h5, -⟩ := q
  exact ⟨ad, kk, P, c, h1, h2, h3, h4, h5⟩
end Go.Proofs.YtebnlklodokhkaaDoor.Lg
