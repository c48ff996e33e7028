/-
  What the program's functions are held to: a list in memory by any representation that lies in blocks of its own.
-/
import Derived.Test.YtefinpapkjgpoaaLL
namespace Go.Proofs.Ytefinpapkjgpoaa
open Go.RowKit
set_option linter.unusedSimpArgs false
set_option linter.unusedVariables false

/-- Only blocks of S, and new ones, are written; all of S lies from B on. -/
def ButS (B : Nat) (S : Nat → Prop) (w w' : World) : Prop := Below B w w' ∧ ∀ k, k < w.heap.size → ¬ S k → w'.heap[k]? = w.heap[k]?
theorem ButS.of_below {B : Nat} {S : Nat → Prop} {w w' : World} (h : Below w.heap.size w w') (hB : B ≤ w.heap.size) : ButS B S w w' := ⟨h.mono hB, fun k hk _ => h.block k hk⟩
theorem Bx.buts {w w' : World} {k t B : Nat} {S : Nat → Prop} {cs : Array Value} (h : Bx w k cs t) (hb : ButS B S w w') (hn : ¬ S k) : Bx w' k cs t := (hb.2 k h.lt hn).trans h
theorem Cs.buts {w w' : World} {B : Nat} {S : Nat → Prop} {a : Option Addr} {cs : List Value} (h : Cs w a cs) (hb : ButS B S w w') (hn : ∀ x, a = some x → ¬ S x.block) : Cs w' a cs := fun j v hj => by
  obtain ⟨b, off, e, hlt, hc⟩ := h j v hj
  refine ⟨b, off, e, Nat.lt_of_lt_of_le hlt hb.1.size, ?_⟩
  rw [← hc]
  unfold World.cell?
  rw [hb.2 b hlt (hn _ e)]
theorem But.buts {g : Nat} {w w' : World} (h : But g w w') : ButS g (· = g) w w' := ⟨h.1, h.2⟩
/-- What is at a slot: its number. -/
def valueM (m : LM) (s : Int) : Int × Bool := if placeM m s < 0 then (0, false) else ((m.E.getD (placeM m s).toNat (0, 0)).2, true)
abbrev Rep := World → Nat → (Nat → Prop) → LM → Prop
/-- The list is now m', in S' and new blocks. -/
def Upd (R : Rep) (g B : Nat) (S : Nat → Prop) (m' : LM) (w w' : World) : Prop := ∃ S', R w' g S' m' ∧ (∀ k, S' k → S k ∨ w.heap.size ≤ k) ∧ ButS B S w w'
/-- THE PROGRAM'S FUNCTIONS, by their numbers: New, PushBack, PushFront, Remove, MoveToBack, Value, First, Last, Next, Prev, Values, Len. -/
structure ListC (R : Rep) (fN fPB fPF fR fM fV fF fL fX fP fVs fLn : FuncId) : Prop where
  inn : ∀ {w g S m}, R w g S m → ∀ k, S k → k < w.heap.size
  keep : ∀ {w w' g S m}, R w g S m → w.heap.size ≤ w'.heap.size → (∀ k, S k → w'.heap[k]? = w.heap[k]?) → R w' g S m
  new : ∀ w, Calls Try.prog fN #[] w fun e w' => ∃ g S, e = .returned (.pointer (some ⟨g, 0, none⟩)) ∧ R w' g S LM.empty ∧ (∀ k, S k → w.heap.size ≤ k) ∧ Below w.heap.size w w'
  pushB : ∀ w g S m v B, R w g S m → Wm m → Ok m 900 → I64 v → (∀ k, S k → B ≤ k) → B ≤ w.heap.size → Calls Try.prog fPB #[.pointer (some ⟨g, 0, none⟩), .int .i64 v] w fun e w' => e = .returned (.int .i64 (pushB m v).2) ∧ Upd R g B S (pushB m v).1 w w'
  pushF : ∀ w g S m v B, R w g S m → Wm m → Ok m 900 → I64 v → (∀ k, S k → B ≤ k) → B ≤ w.heap.size → Calls Try.prog fPF #[.pointer (some ⟨g, 0, none⟩), .int .i64 v] w fun e w' => e = .returned (.int .i64 (pushF m v).2) ∧ Upd R g B S (pushF m v).1 w w'
  remove : ∀ w g S m s B, R w g S m → Wm m → Ok m 900 → I64 s → (∀ k, S k → B ≤ k) → B ≤ w.heap.size → Calls Try.prog fR #[.pointer (some ⟨g, 0, none⟩), .int .i64 s] w fun e w' => e = .returned (.bool (removeM m s).2) ∧ Upd R g B S (removeM m s).1 w w'
  move : ∀ w g S m s B, R w g S m → Wm m → Ok m 900 → I64 s → (∀ k, S k → B ≤ k) → B ≤ w.heap.size → Calls Try.prog fM #[.pointer (some ⟨g, 0, none⟩), .int .i64 s] w fun e w' => e = .returned (.bool (moveM m s).2) ∧ Upd R g B S (moveM m s).1 w w'
  value : ∀ w g S m s, R w g S m → Wm m → Ok m 900 → I64 s → Calls Try.prog fV #[.pointer (some ⟨g, 0, none⟩), .int .i64 s] w fun e w' => e = .returned (.tuple #[.int .i64 (valueM m s).1, .bool (valueM m s).2]) ∧ Below w.heap.size w w'
  first : ∀ w g S m, R w g S m → Wm m → Ok m 900 → Calls Try.prog fF #[.pointer (some ⟨g, 0, none⟩)] w fun e w' => e = .returned (.int .i64 (slotAt m 0)) ∧ Below w.heap.size w w'
  last : ∀ w g S m, R w g S m → Wm m → Ok m 900 → Calls Try.prog fL #[.pointer (some ⟨g, 0, none⟩)] w fun e w' => e = .returned (.int .i64 (slotAt m ((m.E.length : Int) - 1))) ∧ Below w.heap.size w w'
  next : ∀ w g S m s, R w g S m → Wm m → Ok m 900 → I64 s → Calls Try.prog fX #[.pointer (some ⟨g, 0, none⟩), .int .i64 s] w fun e w' => e = .returned (.int .i64 (nextM m s 1)) ∧ Below w.heap.size w w'
  prev : ∀ w g S m s, R w g S m → Wm m → Ok m 900 → I64 s → Calls Try.prog fP #[.pointer (some ⟨g, 0, none⟩), .int .i64 s] w fun e w' => e = .returned (.int .i64 (nextM m s (-1))) ∧ Below w.heap.size w w'
  values : ∀ w g S m, R w g S m → Wm m → Ok m 900 → Calls Try.prog fVs #[.pointer (some ⟨g, 0, none⟩)] w fun e w' => ∃ a c, e = .returned (.slice a m.E.length c) ∧ Cs w' a (icells (valuesM m)) ∧ m.E.length ≤ c ∧ Below w.heap.size w w'
  len : ∀ w g S m, R w g S m → Wm m → Ok m 900 → Calls Try.prog fLn #[.pointer (some ⟨g, 0, none⟩)] w fun e w' => e = .returned (.int .i64 m.E.length) ∧ Below w.heap.size w w'

theorem Ok.mono {m : LM} {k k' : Nat} (h : Ok m k) (hk : k ≤ k') : Ok m k' := ⟨Nat.le_trans h.1 hk, Nat.le_trans h.2.1 hk, Nat.le_trans h.2.2 hk⟩
/-- What play keeps: the numbers (block gs), the reference's list (block gm), the result's place (block g3), and the program's list. -/
structure PW (R : Rep) (w : World) (a : Option Addr) (n c : Nat) (g3 gs gm gl B N : Nat) (S : Nat → Prop) (ea fa : Option Addr) (ec fc : Nat) (m p : LM) (V : World) : Prop where
  bel : Below w.heap.size w V
  z : Bx V g3 zl 28
  num : Bx V gs #[.slice a n c, .int .i64 N] 48
  bm : Bx V gm (lv ea fa ec fc m) 28
  l : LV V ea fa ec fc m
  eo : ∀ x, ea = some x → x.block < V.heap.size ∧ x.block ≠ g3 ∧ x.block ≠ gs ∧ x.block ≠ gm ∧ ¬ S x.block
  fo : ∀ x, fa = some x → x.block < V.heap.size ∧ x.block ≠ g3 ∧ x.block ≠ gs ∧ x.block ≠ gm ∧ ¬ S x.block
  r : R V gl S p
  so : ∀ k, S k → B ≤ k ∧ k ≠ g3 ∧ k ≠ gs ∧ k ≠ gm
  wm : Wm m
  ok : Ok m N
  wp : Wm p
  op : Ok p N
  g3w : w.heap.size ≤ g3
  gsw : w.heap.size ≤ gs
  gmw : w.heap.size ≤ gm
  gss : gs ≠ g3
  gms : gm ≠ g3 ∧ gm ≠ gs
  Bw : w.heap.size ≤ B
  BV : B ≤ V.heap.size
section
variable {R : Rep} {fN fPB fPF fR fM fV fF fL fX fP fVs fLn : FuncId} {w V V2 : World} {a : Option Addr} {n c : Nat} {g3 gs gm gl B N : Nat} {S : Nat → Prop} {ea fa : Option Addr} {ec fc : Nat} {m p : LM}
theorem PW.below (hC : ListC R fN fPB fPF fR fM fV fF fL fX fP fVs fLn) (h : PW R w a n c g3 gs gm gl B N S ea fa ec fc m p V) (hb : Below V.heap.size V V2) : PW R w a n c g3 gs gm gl B N S ea fa ec fc m p V2 :=
  { h with
    bel := h.bel.trans (hb.mono h.bel.size), z := h.z.below h.z.lt hb, num := h.num.below h.num.lt hb, bm := h.bm.below h.bm.lt hb, l := h.l.below hb
    eo := fun x hx => ⟨Nat.lt_of_lt_of_le (h.eo x hx).1 hb.size, (h.eo x hx).2⟩, fo := fun x hx => ⟨Nat.lt_of_lt_of_le (h.fo x hx).1 hb.size, (h.fo x hx).2⟩
    r := hC.keep h.r hb.size fun k hk => hb.block k (hC.inn h.r k hk), BV := Nat.le_trans h.BV hb.size }
/-- A number is taken. -/
theorem PW.num' (hC : ListC R fN fPB fPF fR fM fV fF fL fX fP fVs fLn) (h : PW R w a n c g3 gs gm gl B N S ea fa ec fc m p V) (hb : But gs V V2) (hx : Bx V2 gs #[.slice a n c, .int .i64 (N + 1 : Nat)] 48) : PW R w a n c g3 gs gm gl B (N + 1) S ea fa ec fc m p V2 :=
  { h with
    bel := h.bel.trans (hb.1.mono h.gsw), z := h.z.but hb (Ne.symm h.gss), num := hx, bm := h.bm.but hb h.gms.2
    l := { h.l with e := h.l.e.but hb fun x hx => (h.eo x hx).2.2.1, f := h.l.f.but hb fun x hx => (h.fo x hx).2.2.1 }
    eo := fun x hx => ⟨Nat.lt_of_lt_of_le (h.eo x hx).1 hb.1.size, (h.eo x hx).2⟩, fo := fun x hx => ⟨Nat.lt_of_lt_of_le (h.fo x hx).1 hb.1.size, (h.fo x hx).2⟩
    r := hC.keep h.r hb.1.size fun k hk => hb.2 k (hC.inn h.r k hk) (h.so k hk).2.2.1
    ok := ⟨Nat.le_succ_of_le h.ok.1, Nat.le_succ_of_le h.ok.2.1, Nat.le_succ_of_le h.ok.2.2⟩, op := ⟨Nat.le_succ_of_le h.op.1, Nat.le_succ_of_le h.op.2.1, Nat.le_succ_of_le h.op.2.2⟩, BV := Nat.le_trans h.BV hb.1.size }
/-- The reference's list is written over. -/
theorem PW.put {ea2 fa2 : Option Addr} {ec2 fc2 : Nat} {m2 : LM} (hC : ListC R fN fPB fPF fR fM fV fF fL fX fP fVs fLn) (h : PW R w a n c g3 gs gm gl B N S ea fa ec fc m p V) (hl : LV V ea2 fa2 ec2 fc2 m2) (he : ∀ x, ea2 = some x → x.block < V.heap.size ∧ x.block ≠ g3 ∧ x.block ≠ gs ∧ x.block ≠ gm ∧ ¬ S x.block) (hf : ∀ x, fa2 = some x → x.block < V.heap.size ∧ x.block ≠ g3 ∧ x.block ≠ gs ∧ x.block ≠ gm ∧ ¬ S x.block)
    (hw : Wm m2) (ho : Ok m2 N) : PW R w a n c g3 gs gm gl B N S ea2 fa2 ec2 fc2 m2 p (V.setRow gm (lv ea2 fa2 ec2 fc2 m2)) :=
  have hb : But gm V (V.setRow gm (lv ea2 fa2 ec2 fc2 m2)) := But.setRow V _
  { h with
    bel := h.bel.trans (hb.1.mono h.gmw), z := h.z.but hb (Ne.symm h.gms.1), num := h.num.but hb (Ne.symm h.gms.2), bm := h.bm.set
    l := { hl with e := hl.e.but hb fun x hx => (he x hx).2.2.2.1, f := hl.f.but hb fun x hx => (hf x hx).2.2.2.1 }
    eo := fun x hx => ⟨Nat.lt_of_lt_of_le (he x hx).1 hb.1.size, (he x hx).2⟩, fo := fun x hx => ⟨Nat.lt_of_lt_of_le (hf x hx).1 hb.1.size, (hf x hx).2⟩
    r := hC.keep h.r hb.1.size fun k hk => hb.2 k (hC.inn h.r k hk) (h.so k hk).2.2.2
    wm := hw, ok := ho, BV := Nat.le_trans h.BV hb.1.size }
/-- A row that is the old one or a new one lies apart from all. -/
theorem PW.fre {ea2 : Option Addr} (hC : ListC R fN fPB fPF fR fM fV fF fL fX fP fVs fLn) (h : PW R w a n c g3 gs gm gl B N S ea fa ec fc m p V) (hb : Below V.heap.size V V2) (hr : Fr V V2 ea ea2) : ∀ x, ea2 = some x → x.block < V2.heap.size ∧ x.block ≠ g3 ∧ x.block ≠ gs ∧ x.block ≠ gm ∧ ¬ S x.block := fun x hx => by
  rcases hr with rfl | hr
  · exact ⟨Nat.lt_of_lt_of_le (h.eo x hx).1 hb.size, (h.eo x hx).2⟩
  · obtain ⟨h1, h2⟩ := hr x hx
    have := h.z.lt
    have := h.num.lt
    have := h.bm.lt
    exact ⟨h2, by omega, by omega, by omega, fun hs => by have := hC.inn h.r _ hs; omega⟩
theorem PW.frf {fa2 : Option Addr} (hC : ListC R fN fPB fPF fR fM fV fF fL fX fP fVs fLn) (h : PW R w a n c g3 gs gm gl B N S ea fa ec fc m p V) (hb : Below V.heap.size V V2) (hr : Fr V V2 fa fa2) : ∀ x, fa2 = some x → x.block < V2.heap.size ∧ x.block ≠ g3 ∧ x.block ≠ gs ∧ x.block ≠ gm ∧ ¬ S x.block := fun x hx => by
  rcases hr with rfl | hr
  · exact ⟨Nat.lt_of_lt_of_le (h.fo x hx).1 hb.size, (h.fo x hx).2⟩
  · obtain ⟨h1, h2⟩ := hr x hx
    have := h.z.lt
    have := h.num.lt
    have := h.bm.lt
    exact ⟨h2, by omega, by omega, by omega, fun hs => by have := hC.inn h.r _ hs; omega⟩
/-- The program's list is changed. -/
theorem PW.prog {p2 : LM} (hC : ListC R fN fPB fPF fR fM fV fF fL fX fP fVs fLn) (h : PW R w a n c g3 gs gm gl B N S ea fa ec fc m p V) {S' : Nat → Prop} (hr : R V2 gl S' p2) (hs : ∀ k, S' k → S k ∨ V.heap.size ≤ k) (hb : ButS B S V V2) (hw : Wm p2) (ho : Ok p2 N) : PW R w a n c g3 gs gm gl B N S' ea fa ec fc m p2 V2 :=
  have hz := h.z.lt
  have hnu := h.num.lt
  have hbm := h.bm.lt
  { h with
    bel := h.bel.trans (hb.1.mono h.Bw), z := h.z.buts hb fun hS => (h.so _ hS).2.1 rfl, num := h.num.buts hb fun hS => (h.so _ hS).2.2.1 rfl, bm := h.bm.buts hb fun hS => (h.so _ hS).2.2.2 rfl
    l := { h.l with e := h.l.e.buts hb fun x hx => (h.eo x hx).2.2.2.2, f := h.l.f.buts hb fun x hx => (h.fo x hx).2.2.2.2 }
    eo := fun x hx => ⟨Nat.lt_of_lt_of_le (h.eo x hx).1 hb.1.size, (h.eo x hx).2.1, (h.eo x hx).2.2.1, (h.eo x hx).2.2.2.1, fun hS => by
      rcases hs _ hS with h1 | h1
      · exact (h.eo x hx).2.2.2.2 h1
      · have := (h.eo x hx).1
        omega⟩
    fo := fun x hx => ⟨Nat.lt_of_lt_of_le (h.fo x hx).1 hb.1.size, (h.fo x hx).2.1, (h.fo x hx).2.2.1, (h.fo x hx).2.2.2.1, fun hS => by
      rcases hs _ hS with h1 | h1
      · exact (h.fo x hx).2.2.2.2 h1
      · have := (h.fo x hx).1
        omega⟩
    r := hr
    so := fun k hk => by
      rcases hs k hk with h1 | h1
      · exact h.so k h1
      · have := h.BV
        exact ⟨by omega, by omega, by omega, by omega⟩
    wp := hw, op := ho, BV := Nat.le_trans h.BV hb.1.size }
/-- A block apart, with a list in it. -/
structure EX (S : Nat → Prop) (g3 gs gm gx : Nat) (ea fa : Option Addr) (ec fc : Nat) (m : LM) (V : World) : Prop where
  bx : Bx V gx (lv ea fa ec fc m) 28
  l : LV V ea fa ec fc m
  eo : ∀ x, ea = some x → x.block < V.heap.size ∧ x.block ≠ g3 ∧ x.block ≠ gs ∧ x.block ≠ gm ∧ ¬ S x.block
  fo : ∀ x, fa = some x → x.block < V.heap.size ∧ x.block ≠ g3 ∧ x.block ≠ gs ∧ x.block ≠ gm ∧ ¬ S x.block
  xs : ¬ S gx
theorem EX.prog {gx : Nat} (h : EX S g3 gs gm gx ea fa ec fc m V) {S' : Nat → Prop} (hs : ∀ k, S' k → S k ∨ V.heap.size ≤ k) (hb : ButS B S V V2) : EX S' g3 gs gm gx ea fa ec fc m V2 :=
  have hx := h.bx.lt
  { bx := h.bx.buts hb h.xs
    l := { h.l with e := h.l.e.buts hb fun x hx => (h.eo x hx).2.2.2.2, f := h.l.f.buts hb fun x hx => (h.fo x hx).2.2.2.2 }
    eo := fun x hx => ⟨Nat.lt_of_lt_of_le (h.eo x hx).1 hb.1.size, (h.eo x hx).2.1, (h.eo x hx).2.2.1, (h.eo x hx).2.2.2.1, fun hS => by
      rcases hs _ hS with h1 | h1
      · exact (h.eo x hx).2.2.2.2 h1
      · have := (h.eo x hx).1
        omega⟩
    fo := fun x hx => ⟨Nat.lt_of_lt_of_le (h.fo x hx).1 hb.1.size, (h.fo x hx).2.1, (h.fo x hx).2.2.1, (h.fo x hx).2.2.2.1, fun hS => by
      rcases hs _ hS with h1 | h1
      · exact (h.fo x hx).2.2.2.2 h1
      · have := (h.fo x hx).1
        omega⟩
    xs := fun hS => by
      rcases hs _ hS with h1 | h1
      · exact h.xs h1
      · omega }
end
end Go.Proofs.Ytefinpapkjgpoaa
