/-
  The walk of the statement on the order of items.
-/
import Derived.Test.YtepdibnbnhkpnaaMH
import Derived.Deep.CutBlock
namespace Go.Proofs.Ytepdibnbnhkpnaa
open Go.RowKit
set_option linter.unusedSimpArgs false
set_option linter.unusedVariables false

theorem ff9 {p : Prop} : false = true → p := fun h => by cases h
/-- Steps taken one after another. -/
structure NP (P : Nat → World → Prop) (b1 b2 b3 : Bool) (V : World) : Prop where
  st : P (cond b3 3 (cond b2 2 (cond b1 1 0))) V
  c2 : b2 = true → b1 = true
  c3 : b3 = true → b2 = true
section
variable {P : Nat → World → Prop} {b1 b2 b3 : Bool} {V : World}
theorem NP.s1 (h : NP P false b2 b3 V) : P 0 V ∧ ∀ V', P 1 V' → NP P true b2 b3 V' := by
  obtain ⟨e, c2, c3⟩ := h
  have h2 : b2 = false := by
    cases b2 with
    | false => rfl
    | true => exact absurd (c2 rfl) (by decide)
  have h3 : b3 = false := by
    cases b3 with
    | false => rfl
    | true => rw [h2] at c3; exact absurd (c3 rfl) (by decide)
  subst h2 h3
  exact ⟨e, fun V' h => ⟨h, ff9, ff9⟩⟩
theorem NP.s2 (h : NP P true false b3 V) : P 1 V ∧ ∀ V', P 2 V' → NP P true true b3 V' := by
  obtain ⟨e, c2, c3⟩ := h
  have h3 : b3 = false := by
    cases b3 with
    | false => rfl
    | true => exact absurd (c3 rfl) (by decide)
  subst h3
  exact ⟨e, fun V' h => ⟨h, fun _ => rfl, ff9⟩⟩
theorem NP.s3 (h : NP P b1 true false V) : P 2 V ∧ ∀ V', P 3 V' → NP P b1 true true V' :=
  ⟨h.st, fun V' h2 => ⟨h2, h.c2, fun _ => rfl⟩⟩
end
theorem eq_bool {ρ : Operand → Value} {o : Oper} {x y : Operand} (ho : o.op = .binOp .eql 4 x y 4) (a b : Bool) (hx : ρ x = .bool a) (hy : ρ y = .bool b) (w : World) : (execOp ρ o).run Try.prog w = .ok (.value (.bool (a == b))) w := by
  unfold execOp
  simp only [ho, hx, hy]
  cases a <;> cases b <;> kernel_rfl
theorem neq_bool {ρ : Operand → Value} {o : Oper} {x y : Operand} (ho : o.op = .binOp .neq 4 x y 4) (k : Bool) (hx : ρ x = .bool k) (hy : ρ y = .bool k) (w : World) : (execOp ρ o).run Try.prog w = .ok (.value (.bool false)) w := by
  unfold execOp
  simp only [ho, hx, hy]
  cases k <;> kernel_rfl
/-- Three items in a row. -/
abbrev ar3 (x y z : It) : Array Value := #[.int .i64 x.1, .int .u64 x.2.1, .int .i64 x.2.2, .int .i64 y.1, .int .u64 y.2.1, .int .i64 y.2.2, .int .i64 z.1, .int .u64 z.2.1, .int .i64 z.2.2]
abbrev ar6 (x y z p q r : It) : Array Value := #[.int .i64 x.1, .int .u64 x.2.1, .int .i64 x.2.2, .int .i64 y.1, .int .u64 y.2.1, .int .i64 y.2.2, .int .i64 z.1, .int .u64 z.2.1, .int .i64 z.2.2, .int .i64 p.1, .int .u64 p.2.1, .int .i64 p.2.2, .int .i64 q.1, .int .u64 q.2.1, .int .i64 q.2.2, .int .i64 r.1, .int .u64 r.2.1, .int .i64 r.2.2]
theorem ar3_one (x y z : It) : (ar3 x y z).all (·.oneCell') = true := by simp [Value.oneCell']
theorem new_ar (V : World) (x y z : It) : ∃ V2, (Instr.storeAt 30 (.pointer (some ⟨V.heap.size, 0, none⟩)) (.agg (ar3 x y z))).run Try.prog (V.alloc (.cells (ar3 zIt zIt zIt) 30)) = .ok () V2 ∧ Gd V V2 ∧ Bx V2 V.heap.size (ar3 x y z) 30 := by
  have h : Bx (V.alloc (.cells (ar3 zIt zIt zIt) 30)) V.heap.size (ar3 zIt zIt zIt) 30 := heap_alloc_last V _
  exact ⟨_, run_store_all h rfl (ar3_one x y z) (by kernel_rfl), (Gd.alloc V _).set (Nat.le_refl _) _, h.set⟩
theorem ar_range {w : World} {g t : Nat} {x y z : It} (h : Bx w g (ar3 x y z) t) : w.rangeAt g 0 (itl x) ∧ w.rangeAt g 3 (itl y) ∧ w.rangeAt g 6 (itl z) := by
  refine ⟨fun j v hv => ?_, fun j v hv => ?_, fun j v hv => ?_⟩ <;>
  · have hj : j < 3 := by
      have := (List.getElem?_eq_some_iff.1 hv).1
      simpa [itl] using this
    rw [cell_of_row w g _ _ _ (0, 0) h]
    rcases (show j = 0 ∨ j = 1 ∨ j = 2 by omega) with rfl | rfl | rfl <;> simpa [itl] using hv
/-- One of three boxes: made, written. -/
def Al (W V : World) (b s : Bool) (x : Value) (X : It) : Prop := b = true → ∃ g, x = .pointer (some ⟨g, 0, none⟩) ∧ W.heap.size ≤ g ∧ Bx V g (bif s then itA X else itA zIt) 24
/-- What the region keeps that lays three items into boxes. -/
structure BW (W : World) (g : Nat) (X Y Z : It) (a1 a2 a3 s1 s2 s3 : Bool) (x1 x2 x3 : Value) (V : World) : Prop where
  bel : Below W.heap.size W V
  bx : Bx V g (ar3 X Y Z) 30
  p1 : Al W V a1 s1 x1 X
  p2 : Al W V a2 s2 x2 Y
  p3 : Al W V a3 s3 x3 Z
  q1 : s1 = true → a1 = true
  q2 : s2 = true → a2 = true
  q3 : s3 = true → a3 = true
  d12 : a1 = true → a2 = true → x1 ≠ x2
  d13 : a1 = true → a3 = true → x1 ≠ x3
  d23 : a2 = true → a3 = true → x2 ≠ x3
  lt : g < W.heap.size
section
variable {W V V2 : World} {g : Nat} {X Y Z : It} {a1 a2 a3 s1 s2 s3 : Bool} {x1 x2 x3 : Value}
theorem Al.below {b s : Bool} {x : Value} {X : It} (h : Al W V b s x X) (hb : Below V.heap.size V V2) : Al W V2 b s x X := fun e => by
  obtain ⟨g, h1, h2, h3⟩ := h e
  exact ⟨g, h1, h2, h3.below h3.lt hb⟩
theorem Al.set {b s : Bool} {x : Value} {X : It} (h : Al W V b s x X) {k : Nat} (hk : b = true → x ≠ .pointer (some ⟨k, 0, none⟩)) (cs : Array Value) : Al W (V.setRow k cs) b s x X := fun e => by
  obtain ⟨g, h1, h2, h3⟩ := h e
  exact ⟨g, h1, h2, (setRow_other V k g cs (fun e2 => hk e (by rw [h1, e2]))).trans h3⟩
theorem Al.new (hb : Below W.heap.size W V) (X : It) : Al W (V.alloc (.cells (itA zIt) 24)) true false (.pointer (some ⟨V.heap.size, 0, none⟩)) X := fun _ => ⟨V.heap.size, rfl, hb.size, heap_alloc_last V _⟩
theorem Al.ne {b s : Bool} {x : Value} {X : It} (h : Al W V b s x X) (e : b = true) : x ≠ .pointer (some ⟨V.heap.size, 0, none⟩) := fun e2 => by
  obtain ⟨g, h1, h2, h3⟩ := h e
  have := h3.lt
  rw [h1] at e2
  simp only [Value.pointer.injEq, Option.some.injEq, Addr.mk.injEq, and_true] at e2
  omega
theorem BW.start {V0 : World} (h : Bx V0 g (ar3 X Y Z) 30) (x1 x2 x3 : Value) : BW V0 g X Y Z false false false false false false x1 x2 x3 { V0 with drawn := V0.drawn + 1 } :=
  ⟨(Below.refl _ V0).drew, h, ff9, ff9, ff9, ff9, ff9, ff9, ff9, fun h => ff9 h, fun h => ff9 h, h.lt⟩
theorem al_below (V : World) : Below V.heap.size V (V.alloc (.cells (itA zIt) 24)) := (Below.refl _ V).alloc (Nat.le_refl _) _
theorem BW.m1 (h : BW W g X Y Z false a2 a3 s1 s2 s3 x1 x2 x3 V) : BW W g X Y Z true a2 a3 s1 s2 s3 (.pointer (some ⟨V.heap.size, 0, none⟩)) x2 x3 (V.alloc (.cells (itA zIt) 24)) := by
  have e : s1 = false := by cases s1; rfl; exact absurd (h.q1 rfl) (by decide)
  subst e
  exact ⟨h.bel.trans ((al_below V).mono h.bel.size), h.bx.below h.bx.lt (al_below V), Al.new h.bel X, h.p2.below (al_below V), h.p3.below (al_below V), ff9, h.q2, h.q3, fun _ e => Ne.symm (h.p2.ne e), fun _ e => Ne.symm (h.p3.ne e), h.d23, h.lt⟩
theorem BW.m2 (h : BW W g X Y Z a1 false a3 s1 s2 s3 x1 x2 x3 V) : BW W g X Y Z a1 true a3 s1 s2 s3 x1 (.pointer (some ⟨V.heap.size, 0, none⟩)) x3 (V.alloc (.cells (itA zIt) 24)) := by
  have e : s2 = false := by cases s2; rfl; exact absurd (h.q2 rfl) (by decide)
  subst e
  exact ⟨h.bel.trans ((al_below V).mono h.bel.size), h.bx.below h.bx.lt (al_below V), h.p1.below (al_below V), Al.new h.bel Y, h.p3.below (al_below V), h.q1, ff9, h.q3, fun e _ => h.p1.ne e, h.d13, fun _ e => Ne.symm (h.p3.ne e), h.lt⟩
theorem BW.m3 (h : BW W g X Y Z a1 a2 false s1 s2 s3 x1 x2 x3 V) : BW W g X Y Z a1 a2 true s1 s2 s3 x1 x2 (.pointer (some ⟨V.heap.size, 0, none⟩)) (V.alloc (.cells (itA zIt) 24)) := by
  have e : s3 = false := by cases s3; rfl; exact absurd (h.q3 rfl) (by decide)
  subst e
  exact ⟨h.bel.trans ((al_below V).mono h.bel.size), h.bx.below h.bx.lt (al_below V), h.p1.below (al_below V), h.p2.below (al_below V), Al.new h.bel Z, h.q1, h.q2, ff9, h.d12, fun e _ => h.p1.ne e, fun e _ => h.p2.ne e, h.lt⟩
theorem set_bx {k : Nat} (h : BW W g X Y Z a1 a2 a3 s1 s2 s3 x1 x2 x3 V) (hk : W.heap.size ≤ k) (cs : Array Value) : Below W.heap.size W (V.setRow k cs) ∧ Bx (V.setRow k cs) g (ar3 X Y Z) 30 :=
  ⟨belowRow h.bel hk cs, (setRow_other V k g cs (by have := h.lt; omega)).trans h.bx⟩
theorem BW.w1 (h : BW W g X Y Z true a2 a3 false s2 s3 x1 x2 x3 V) : ∃ V2, (Instr.storeAt 24 x1 (.agg (itA X))).run Try.prog V = .ok () V2 ∧ BW W g X Y Z true a2 a3 true s2 s3 x1 x2 x3 V2 := by
  obtain ⟨k, rfl, h2, h3⟩ := h.p1 rfl
  obtain ⟨hs, hX⟩ := store_box (y := X) (show Bx V k (itA zIt) _ from h3)
  exact ⟨_, hs, (set_bx h h2 _).1, (set_bx h h2 _).2, fun _ => ⟨k, rfl, h2, hX⟩, h.p2.set (fun e => Ne.symm (h.d12 rfl e)) _, h.p3.set (fun e => Ne.symm (h.d13 rfl e)) _, fun _ => rfl, h.q2, h.q3, h.d12, h.d13, h.d23, h.lt⟩
theorem BW.w2 (h : BW W g X Y Z a1 true a3 s1 false s3 x1 x2 x3 V) : ∃ V2, (Instr.storeAt 24 x2 (.agg (itA Y))).run Try.prog V = .ok () V2 ∧ BW W g X Y Z a1 true a3 s1 true s3 x1 x2 x3 V2 := by
  obtain ⟨k, rfl, h2, h3⟩ := h.p2 rfl
  obtain ⟨hs, hX⟩ := store_box (y := Y) (show Bx V k (itA zIt) _ from h3)
  exact ⟨_, hs, (set_bx h h2 _).1, (set_bx h h2 _).2, h.p1.set (fun e => h.d12 e rfl) _, fun _ => ⟨k, rfl, h2, hX⟩, h.p3.set (fun e => Ne.symm (h.d23 rfl e)) _, h.q1, fun _ => rfl, h.q3, h.d12, h.d13, h.d23, h.lt⟩
theorem BW.w3 (h : BW W g X Y Z a1 a2 true s1 s2 false x1 x2 x3 V) : ∃ V2, (Instr.storeAt 24 x3 (.agg (itA Z))).run Try.prog V = .ok () V2 ∧ BW W g X Y Z a1 a2 true s1 s2 true x1 x2 x3 V2 := by
  obtain ⟨k, rfl, h2, h3⟩ := h.p3 rfl
  obtain ⟨hs, hX⟩ := store_box (y := Z) (show Bx V k (itA zIt) _ from h3)
  exact ⟨_, hs, (set_bx h h2 _).1, (set_bx h h2 _).2, h.p1.set (fun e => h.d13 e rfl) _, h.p2.set (fun e => h.d23 e rfl) _, fun _ => ⟨k, rfl, h2, hX⟩, h.q1, h.q2, fun _ => rfl, h.d12, h.d13, h.d23, h.lt⟩
end
/-- Three items in boxes of their own. -/
structure B3 (W : World) (g1 g2 g3 : Nat) (X Y Z : It) (V : World) : Prop where
  bel : Below W.heap.size W V
  b1 : Bx V g1 (itA X) 24
  b2 : Bx V g2 (itA Y) 24
  b3 : Bx V g3 (itA Z) 24
theorem B3.below {W V V2 : World} {g1 g2 g3 : Nat} {X Y Z : It} (h : B3 W g1 g2 g3 X Y Z V) (hb : Below V.heap.size V V2) : B3 W g1 g2 g3 X Y Z V2 := ⟨h.bel.trans (hb.mono h.bel.size), h.b1.below h.b1.lt hb, h.b2.below h.b2.lt hb, h.b3.below h.b3.lt hb⟩
theorem idx_ar {ρ : Operand → Value} {o : Oper} {x y : Operand} (k : Nat) (hk : k < 3) (g : Nat) (ho : o.op = .indexAddr 30 x y) (hx : ρ x = .pointer (some ⟨g, 0, none⟩)) (hy : ρ y = .int .i64 k) (V : World) : (execOp ρ o).run Try.prog V = .ok (.value (.pointer (some ⟨g, k * 3, none⟩))) V := by
  unfold execOp
  simp only [ho, hx, hy]
  rcases (show k = 0 ∨ k = 1 ∨ k = 2 by omega) with rfl | rfl | rfl <;> kernel_rfl
set_option maxRecDepth 100000 in
set_option maxHeartbeats 8000000 in
theorem orders_core {R : HRep} (hC : HeapC R 13 15 17 20 19 23 21 11) (x y z : It) (a : Option Addr) (c : Nat) (L : List Int) (w : World) (hL : Cs w a (icells L)) (hl : L.length ≤ 9223372036854775807) :
    Calls Try.prog 3 #[.agg (itA x), .agg (itA y), .agg (itA z), .slice a L.length c] w fun e w' => e = .returned (.bool true) ∧ Below w.heap.size w w' := by
  have HK := Lib.hid (fun V => known_true hC V)
  have HBF := Lib.hid (fun V p q => hC.before V p q)
  obtain ⟨W0, hW0⟩ : ∃ W0, ((w.alloc (.cells (itA x) 24)).alloc (.cells (itA y) 24)).alloc (.cells (itA z) 24) = W0 := ⟨_, rfl⟩
  obtain ⟨hg, hx0, hy0⟩ := two_box x y w
  have hgz := Gd.alloc ((w.alloc (.cells (itA x) 24)).alloc (.cells (itA y) 24)) (.cells (itA z) 24)
  have hx1 := hx0.below hx0.lt hgz.1
  have hy1 := hy0.below hy0.lt hgz.1
  have hz1 : Bx (((w.alloc (.cells (itA x) 24)).alloc (.cells (itA y) 24)).alloc (.cells (itA z) 24)) (w.heap.size + 1 + 1) (itA z) 24 := by
    have h1 := heap_alloc_last ((w.alloc (.cells (itA x) 24)).alloc (.cells (itA y) 24)) (.cells (itA z) 24)
    have e : ((w.alloc (.cells (itA x) 24)).alloc (.cells (itA y) 24)).heap.size = w.heap.size + 1 + 1 := by simp
    rw [e] at h1
    exact h1
  have hb0 := (hg.trans hgz).1
  rw [hW0] at hx1 hy1 hz1 hb0
  have hbr : Below W0.heap.size W0 (W0.alloc (.cells #[.slice a L.length c] 25)) := (Below.refl _ W0).alloc (Nat.le_refl _) _
  have hX1 : Bx (W0.alloc (.cells #[.slice a L.length c] 25)) W0.heap.size #[.slice a L.length c] 25 := heap_alloc_last W0 _
  have CLn := long_one W0.heap.size a L.length c _ hX1 hl
  have HL := Lib.hid hL
  obtain ⟨g4, hg4⟩ : ∃ g4, w.heap.size = g4 := ⟨_, rfl⟩
  rw [hg4] at hx1 hy1 hz1
  have HG4 := Lib.hid hg4
  obtain ⟨n, hn⟩ : ∃ n, L.length = n := ⟨_, rfl⟩
  clear hx0 hy0 hg hgz hX1 hL
  by_cases hm : 160 < L.length
  · have hd : decide ((160 : Int) < (L.length : Int)) = true := decide_eq_true (by omega)
    rw [hd] at CLn
    rw [hn] at hbr CLn ⊢
    clear hx1 hy1 hz1 hd HL hl hm hn
    go_enter Try.func3, Try.ntmps3
    go_upto_region 1 with fail
    clear hW0 hg4
    apply wp_region_lit
    refine gw_val (by kernel_rfl) (some 15) rfl (.slice a n c) (by kernel_rfl) ?_
    simp only [Act.put, List.setIfInBounds_toArray, List.set_cons_succ, List.set_cons_zero]
    refine gw_build (by kernel_rfl) (some 16) rfl 54 1 #[(0, .tmp 15)] rfl #[(0, .slice a n c)] (by kernel_rfl) (.slice (some ⟨W0.heap.size, 0, none⟩) 1 1) _ (one_row a n c W0) ?_
    simp only [Act.put, List.setIfInBounds_toArray, List.set_cons_succ, List.set_cons_zero]
    generalize W0.alloc (.cells #[.slice a n c] 25) = W1 at *
    refine gw_call (by kernel_rfl) (some 17) rfl 7 #[.slice (some ⟨W0.heap.size, 0, none⟩) 1 1] (.bool true) (fun w' => W1 = w') (by kernel_rfl) CLn (fun W2 hW => ?_)
    subst hW
    simp only [Act.put, List.setIfInBounds_toArray, List.set_cons_succ, List.set_cons_zero]
    apply wpList_nil
    clear CLn
    go_upto_region 2 with fail
    apply wp_region_lit
    refine gw_call (by kernel_rfl) (some 18) rfl 8 #[] (.bool true) (fun w' => Below W1.heap.size W1 w') (by kernel_rfl) (HK.out W1) (fun W2 hb2 => ?_)
    simp only [Act.put, List.setIfInBounds_toArray, List.set_cons_succ, List.set_cons_zero]
    refine gw_val (by kernel_rfl) (some 8) rfl (.bool true) (by kernel_rfl) ?_
    simp only [Act.put, List.setIfInBounds_toArray, List.set_cons_succ, List.set_cons_zero]
    apply wpList_nil
    have HE := Lib.hid (hb0.trans ((hbr.trans (hb2.mono hbr.size)).mono hb0.size))
    clear hb0 hbr hb2 HK HBF
    go_wp2_with fail
    go_ret
    exact ⟨rfl, HE.out⟩
  · have hd : decide ((160 : Int) < (L.length : Int)) = false := decide_eq_false (by omega)
    rw [hd] at CLn
    have hn160 : L.length ≤ 160 := by omega
    have HIT := Lib.hid (fun (gs N : Nat) (V : World) (hX : Bx V gs #[.slice a L.length c, .int .i64 N] 42) (hb : Below w.heap.size w V) (hg : w.heap.size ≤ gs) (hN : N ≤ 90000) => item_any HL.out (by omega) c gs N V hX hb hg hN)
    have CF := mk_from a L.length c
    obtain ⟨p0, hp0⟩ : ∃ p0, itmL L 0 = p0 := ⟨_, rfl⟩
    obtain ⟨p1, hp1⟩ : ∃ p1, itmL L 3 = p1 := ⟨_, rfl⟩
    obtain ⟨p2, hp2⟩ : ∃ p2, itmL L 6 = p2 := ⟨_, rfl⟩
    have HP := Lib.hid (And.intro hp0 (And.intro hp1 hp2))
    rw [hn] at hbr CLn HIT CF ⊢
    clear hd HL hl hm hn hn160 hp0 hp1 hp2
    go_enter Try.func3, Try.ntmps3
    go_upto_region 1 with fail
    clear hW0 hg4
    apply wp_region_lit
    refine gw_val (by kernel_rfl) (some 15) rfl (.slice a n c) (by kernel_rfl) ?_
    simp only [Act.put, List.setIfInBounds_toArray, List.set_cons_succ, List.set_cons_zero]
    refine gw_build (by kernel_rfl) (some 16) rfl 54 1 #[(0, .tmp 15)] rfl #[(0, .slice a n c)] (by kernel_rfl) (.slice (some ⟨W0.heap.size, 0, none⟩) 1 1) _ (one_row a n c W0) ?_
    simp only [Act.put, List.setIfInBounds_toArray, List.set_cons_succ, List.set_cons_zero]
    generalize W0.alloc (.cells #[.slice a n c] 25) = W1 at *
    refine gw_call (by kernel_rfl) (some 17) rfl 7 #[.slice (some ⟨W0.heap.size, 0, none⟩) 1 1] (.bool false) (fun w' => W1 = w') (by kernel_rfl) CLn (fun W2 hW => ?_)
    subst hW
    simp only [Act.put, List.setIfInBounds_toArray, List.set_cons_succ, List.set_cons_zero]
    apply wpList_nil
    clear CLn
    go_upto_region 3 with fail
    apply wp_region_lit
    refine gw_val (by kernel_rfl) (some 19) rfl (.slice a n c) (by kernel_rfl) ?_
    simp only [Act.put, List.setIfInBounds_toArray, List.set_cons_succ, List.set_cons_zero]
    refine gw_call (by kernel_rfl) (some 20) rfl 9 #[.slice a n c] (.pointer (some ⟨W1.heap.size, 0, none⟩)) (fun w' => w' = W1.alloc (.cells #[.slice a n c, .int .i64 0] 42)) (by kernel_rfl) (CF W1) (fun W3 hW3 => ?_)
    simp only [Act.put, List.setIfInBounds_toArray, List.set_cons_succ, List.set_cons_zero]
    refine gw_val (by kernel_rfl) (some 9) rfl (.pointer (some ⟨W1.heap.size, 0, none⟩)) (by kernel_rfl) ?_
    simp only [Act.put, List.setIfInBounds_toArray, List.set_cons_succ, List.set_cons_zero]
    apply wpList_nil
    have hb3 : Below W1.heap.size W1 W3 := by rw [hW3]; exact (Below.refl _ W1).alloc (Nat.le_refl _) _
    have hX3 : Bx W3 W1.heap.size #[.slice a n c, .int .i64 (0 : Nat)] 42 := by rw [hW3]; exact heap_alloc_last W1 _
    have hb03 := hbr.trans (hb3.mono hbr.size)
    have hB3 := hb0.trans (hb03.mono hb0.size)
    have hx3 := hx1.below hx1.lt hb03
    have hy3 := hy1.below hy1.lt hb03
    have hz3 := hz1.below hz1.lt hb03
    have hgz := hz1.lt
    have hgs0 := hbr.size
    obtain ⟨gs, hgs⟩ : ∃ gs, W1.heap.size = gs := ⟨_, rfl⟩
    rw [hgs] at hX3 hgs0 ⊢
    have HGS : Hid (w.heap.size ≤ gs ∧ g4 + 1 + 1 < gs) := Lib.hid ⟨by have := hb0.size; omega, by omega⟩
    have h0 : NP (fun i V => Below w.heap.size w V ∧ Bx V gs #[.slice a n c, .int .i64 (3 * i : Nat)] 42 ∧ Bx V g4 (itA x) 24 ∧ Bx V (g4 + 1) (itA y) 24 ∧ Bx V (g4 + 1 + 1) (itA z) 24) false false false W3.drew := ⟨⟨hB3.drew, hX3, hx3, hy3, hz3⟩, ff9, ff9⟩
    have HST := Lib.hid (fun (i : Nat) (hi : i ≤ 2) (V : World) (q : It) (hq : itmL L (3 * i) = q) (h : Below w.heap.size w V ∧ Bx V gs #[.slice a n c, .int .i64 (3 * i : Nat)] 42 ∧ Bx V g4 (itA x) 24 ∧ Bx V (g4 + 1) (itA y) 24 ∧ Bx V (g4 + 1 + 1) (itA z) 24) => (by
      have h1 := HIT.out gs (3 * i) V h.2.1 h.1 HGS.out.1 (by omega)
      rw [hq] at h1
      exact h1.mono fun e w' u => ⟨u.1, h.1.trans (u.2.1.1.mono HGS.out.1), by rw [show 3 * (i + 1) = 3 * i + 3 by omega]; exact u.2.2, h.2.2.1.but u.2.1 (by have := HGS.out.2; omega), h.2.2.2.1.but u.2.1 (by have := HGS.out.2; omega), h.2.2.2.2.but u.2.1 (by have := HGS.out.2; omega)⟩ : Calls Try.prog 10 #[.pointer (some ⟨gs, 0, none⟩)] V fun e w' => e = .returned (.agg (itA q)) ∧ (Below w.heap.size w w' ∧ Bx w' gs #[.slice a n c, .int .i64 (3 * (i + 1) : Nat)] 42 ∧ Bx w' g4 (itA x) 24 ∧ Bx w' (g4 + 1) (itA y) 24 ∧ Bx w' (g4 + 1 + 1) (itA z) 24)))
    have HAR : Hid (∀ i V, (Below w.heap.size w V ∧ Bx V gs #[.slice a n c, .int .i64 (3 * i : Nat)] 42 ∧ Bx V g4 (itA x) 24 ∧ Bx V (g4 + 1) (itA y) 24 ∧ Bx V (g4 + 1 + 1) (itA z) 24) → Bx V g4 (itA x) 24 ∧ Bx V (g4 + 1) (itA y) 24 ∧ Bx V (g4 + 1 + 1) (itA z) 24) := Lib.hid (fun i V h => h.2.2)
    clear hb3 hW3 hX3 hb03 hB3 hx3 hy3 hz3 hgz hgs0 hgs hx1 hy1 hz1 hbr CF HIT
    go_upto_region 4 with fail
    refine wp_region_inv (fun listed act9 V => ∃ b0 b1 b2 b3 b4 b5 b6 b7 b8 b9 b10 b11 b12 : Bool, listed = #[b0, b1, b2, b3, b4, b5, b6, b7, b8, b9, b10, b11, b12] ∧ act9 = { tmps := #[.agg (itA x), .agg (itA y), .agg (itA z), .slice a n c, .pointer (some ⟨g4, 0, none⟩), .pointer (some ⟨g4 + 1, 0, none⟩), .pointer (some ⟨g4 + 1 + 1, 0, none⟩), undef, .bool false, .pointer (some ⟨gs, 0, none⟩), undef, undef, undef, undef, undef, .slice a n c, .slice (some ⟨W0.heap.size, 0, none⟩) 1 1, .bool false, undef, .slice a n c, .pointer (some ⟨gs, 0, none⟩), (cond b0 (.agg (itA x)) undef), (cond b1 (.agg (itA y)) undef), (cond b2 (.agg (itA z)) undef), (cond b3 (.agg (ar3 x y z)) undef), (cond b4 (.pointer (some ⟨gs, 0, none⟩)) undef), (cond b5 (.agg (itA p0)) undef), (cond b6 (.pointer (some ⟨gs, 0, none⟩)) undef), (cond b7 (.agg (itA p1)) undef), (cond b8 (.pointer (some ⟨gs, 0, none⟩)) undef), (cond b9 (.agg (itA p2)) undef), (cond b10 (.agg (ar3 p0 p1 p2)) undef), (cond b11 (.agg (ar6 x y z p0 p1 p2)) undef), (cond b12 (.int .i64 0) undef), undef, undef, undef, undef, undef, undef, undef, undef, undef, undef, undef, undef, undef, undef, undef, undef, undef, undef, undef, undef, undef, undef, undef, undef, undef, undef, undef, undef, undef, undef, undef, undef, undef, undef, undef, undef, undef, undef, undef, undef, undef, undef, undef, undef, undef, undef, undef, undef, undef, undef, undef, undef, undef, undef, undef, undef, undef], defers := [] } ∧ NP (fun i V => Below w.heap.size w V ∧ Bx V gs #[.slice a n c, .int .i64 (3 * i : Nat)] 42 ∧ Bx V g4 (itA x) 24 ∧ Bx V (g4 + 1) (itA y) 24 ∧ Bx V (g4 + 1 + 1) (itA z) 24) b5 b7 b9 V) (by kernel_rfl) (by kernel_rfl) ?_ ?_ ?_
    · exact ⟨false, false, false, false, false, false, false, false, false, false, false, false, false, rfl, rfl, h0⟩
    · intro i9 listed act9 V hi9 hr hJ
      obtain ⟨b0, b1, b2, b3, b4, b5, b6, b7, b8, b9, b10, b11, b12, rfl, rfl, hF⟩ := hJ
      have hi2 : i9 < 13 := hi9
      have hi3 : i9 = 0 ∨ i9 = 1 ∨ i9 = 2 ∨ i9 = 3 ∨ i9 = 4 ∨ i9 = 5 ∨ i9 = 6 ∨ i9 = 7 ∨ i9 = 8 ∨ i9 = 9 ∨ i9 = 10 ∨ i9 = 11 ∨ i9 = 12 := by omega
      rcases hi3 with rfl | rfl | rfl | rfl | rfl | rfl | rfl | rfl | rfl | rfl | rfl | rfl | rfl
      · obtain rfl : b0 = false := ready_self hr
        refine st_load rfl (by kernel_rfl) (some 21) rfl 24 (.tmp 4) rfl ⟨g4, 0, none⟩ (.agg (itA x)) (by kernel_rfl) (load_box ((HAR.out _ _ hF.st).1)) ?_
        exact ⟨true, b1, b2, b3, b4, b5, b6, b7, b8, b9, b10, b11, b12, rfl, rfl, hF⟩
      · obtain rfl : b1 = false := ready_self hr
        refine st_load rfl (by kernel_rfl) (some 22) rfl 24 (.tmp 5) rfl ⟨g4 + 1, 0, none⟩ (.agg (itA y)) (by kernel_rfl) (load_box ((HAR.out _ _ hF.st).2.1)) ?_
        exact ⟨b0, true, b2, b3, b4, b5, b6, b7, b8, b9, b10, b11, b12, rfl, rfl, hF⟩
      · obtain rfl : b2 = false := ready_self hr
        refine st_load rfl (by kernel_rfl) (some 23) rfl 24 (.tmp 6) rfl ⟨g4 + 1 + 1, 0, none⟩ (.agg (itA z)) (by kernel_rfl) (load_box ((HAR.out _ _ hF.st).2.2)) ?_
        exact ⟨b0, b1, true, b3, b4, b5, b6, b7, b8, b9, b10, b11, b12, rfl, rfl, hF⟩
      · obtain rfl : b3 = false := ready_self hr
        obtain rfl : b0 = true := ready_dep hr 0 (by kernel_rfl)
        obtain rfl : b1 = true := ready_dep hr 1 (by kernel_rfl)
        obtain rfl : b2 = true := ready_dep hr 2 (by kernel_rfl)
        refine st_val rfl (by kernel_rfl) (some 24) rfl (.agg (ar3 x y z)) V (by kernel_rfl) ?_
        exact ⟨true, true, true, true, b4, b5, b6, b7, b8, b9, b10, b11, b12, rfl, rfl, hF⟩
      · obtain rfl : b4 = false := ready_self hr
        refine st_val rfl (by kernel_rfl) (some 25) rfl (.pointer (some ⟨gs, 0, none⟩)) V (by kernel_rfl) ?_
        exact ⟨b0, b1, b2, b3, true, b5, b6, b7, b8, b9, b10, b11, b12, rfl, rfl, hF⟩
      · obtain rfl : b5 = false := ready_self hr
        obtain rfl : b4 = true := ready_dep hr 4 (by kernel_rfl)
        obtain ⟨q1, q2⟩ := hF.s1
        refine st_call rfl (by kernel_rfl) (some 26) rfl 10 #[.pointer (some ⟨gs, 0, none⟩)] (by kernel_rfl) ((HST.out 0 (by omega) V p0 (HP.out.1) q1).mono ?_)
        rintro e w9 ⟨rfl, hw9⟩
        exact ⟨_, rfl, b0, b1, b2, b3, true, true, b6, b7, b8, b9, b10, b11, b12, rfl, rfl, q2 _ hw9⟩
      · obtain rfl : b6 = false := ready_self hr
        refine st_val rfl (by kernel_rfl) (some 27) rfl (.pointer (some ⟨gs, 0, none⟩)) V (by kernel_rfl) ?_
        exact ⟨b0, b1, b2, b3, b4, b5, true, b7, b8, b9, b10, b11, b12, rfl, rfl, hF⟩
      · obtain rfl : b7 = false := ready_self hr
        obtain rfl : b5 = true := ready_dep hr 5 (by kernel_rfl)
        obtain rfl : b6 = true := ready_dep hr 6 (by kernel_rfl)
        obtain ⟨q1, q2⟩ := hF.s2
        refine st_call rfl (by kernel_rfl) (some 28) rfl 10 #[.pointer (some ⟨gs, 0, none⟩)] (by kernel_rfl) ((HST.out 1 (by omega) V p1 (HP.out.2.1) q1).mono ?_)
        rintro e w9 ⟨rfl, hw9⟩
        exact ⟨_, rfl, b0, b1, b2, b3, b4, true, true, true, b8, b9, b10, b11, b12, rfl, rfl, q2 _ hw9⟩
      · obtain rfl : b8 = false := ready_self hr
        refine st_val rfl (by kernel_rfl) (some 29) rfl (.pointer (some ⟨gs, 0, none⟩)) V (by kernel_rfl) ?_
        exact ⟨b0, b1, b2, b3, b4, b5, b6, b7, true, b9, b10, b11, b12, rfl, rfl, hF⟩
      · obtain rfl : b9 = false := ready_self hr
        obtain rfl : b7 = true := ready_dep hr 7 (by kernel_rfl)
        obtain rfl : b8 = true := ready_dep hr 8 (by kernel_rfl)
        obtain ⟨q1, q2⟩ := hF.s3
        refine st_call rfl (by kernel_rfl) (some 30) rfl 10 #[.pointer (some ⟨gs, 0, none⟩)] (by kernel_rfl) ((HST.out 2 (by omega) V p2 (HP.out.2.2) q1).mono ?_)
        rintro e w9 ⟨rfl, hw9⟩
        exact ⟨_, rfl, b0, b1, b2, b3, b4, b5, b6, true, true, true, b10, b11, b12, rfl, rfl, q2 _ hw9⟩
      · obtain rfl : b10 = false := ready_self hr
        obtain rfl : b5 = true := ready_dep hr 5 (by kernel_rfl)
        obtain rfl : b7 = true := ready_dep hr 7 (by kernel_rfl)
        obtain rfl : b9 = true := ready_dep hr 9 (by kernel_rfl)
        refine st_val rfl (by kernel_rfl) (some 31) rfl (.agg (ar3 p0 p1 p2)) V (by kernel_rfl) ?_
        exact ⟨b0, b1, b2, b3, b4, true, b6, true, b8, true, true, b11, b12, rfl, rfl, hF⟩
      · obtain rfl : b11 = false := ready_self hr
        obtain rfl : b3 = true := ready_dep hr 3 (by kernel_rfl)
        obtain rfl : b10 = true := ready_dep hr 10 (by kernel_rfl)
        refine st_val rfl (by kernel_rfl) (some 32) rfl (.agg (ar6 x y z p0 p1 p2)) V (by kernel_rfl) ?_
        exact ⟨b0, b1, b2, true, b4, b5, b6, b7, b8, b9, true, true, b12, rfl, rfl, hF⟩
      · obtain rfl : b12 = false := ready_self hr
        refine st_val rfl (by kernel_rfl) (some 33) rfl (.int .i64 0) V (by kernel_rfl) ?_
        exact ⟨b0, b1, b2, b3, b4, b5, b6, b7, b8, b9, b10, b11, true, rfl, rfl, hF⟩
    · intro act9 V hJ
      obtain ⟨b0, b1, b2, b3, b4, b5, b6, b7, b8, b9, b10, b11, b12, he, rfl, hF⟩ := hJ
      have he : (#[true, true, true, true, true, true, true, true, true, true, true, true, true] : Array Bool) = #[b0, b1, b2, b3, b4, b5, b6, b7, b8, b9, b10, b11, b12] := he
      simp only [Array.mk.injEq, List.cons.injEq, and_true] at he
      obtain ⟨rfl, rfl, rfl, rfl, rfl, rfl, rfl, rfl, rfl, rfl, rfl, rfl, rfl⟩ := he
      simp only [cond_true]
      have HB := Lib.hid hF.st.1
      clear hF h0 HST HAR HGS HP hb0
      obtain ⟨V9, eV⟩ : ∃ V9, V = V9 := ⟨_, rfl⟩
      rw [eV] at HB ⊢
      clear eV
      go_wp2_with fail
      go_loopg [33] 2 (fun gg s33 wx => ∃ i : Nat, s33 = .int .i64 i ∧ i ≤ 2 ∧ Below w.heap.size w wx ∧ 2 - i = gg)
      case atStart => exact ⟨0, rfl, by omega, HB.out, rfl⟩
      case round =>
        obtain ⟨i, rfl, hi, hB, hg⟩ := hrel
        by_cases hlt : i < 2
        · have HD : Hid (decide (i < 2) = true) := Lib.hid (decide_eq_true hlt)
          obtain ⟨X, Y, Z, hXYZ⟩ : ∃ X Y Z : It, ∀ (ρ : Operand → Value) (o : Oper) (p q : Operand) (W : World), o.op = .index 32 p q → ρ p = .agg (ar6 x y z p0 p1 p2) → ρ q = .int .i64 i → (execOp ρ o).run Try.prog W = .ok (.value (.agg (ar3 X Y Z))) W := by
            rcases (show i = 0 ∨ i = 1 by omega) with rfl | rfl
            · refine ⟨x, y, z, fun ρ o p q W h1 h2 h3 => ?_⟩
              unfold execOp
              simp only [h1, h2, h3]
              kernel_rfl
            · refine ⟨p0, p1, p2, fun ρ o p q W h1 h2 h3 => ?_⟩
              unfold execOp
              simp only [h1, h2, h3]
              kernel_rfl
          have HG : Hid (2 - (i + 1) = gk - 1 ∧ 0 < gk ∧ i + 1 ≤ 2) := Lib.hid ⟨by omega, by omega, by omega⟩
          obtain ⟨V2, hst, hgd, hbx⟩ := new_ar wr X Y Z
          have HB2 := Lib.hid (hB.trans (hgd.1.mono hB.size))
          clear hg hB hgd
          go_upto_region 5 with fail
          apply wp_region_lit
          refine gw_val (by kernel_rfl) (some 34) rfl (.bool true) (by rw [← HD.out]; exact lt_nat rfl i 2 (by kernel_rfl) (by kernel_rfl) _) ?_
          simp only [Act.put, List.setIfInBounds_toArray, List.set_cons_succ, List.set_cons_zero]
          apply wpList_nil
          go_upto_region 6 with fail
          apply wp_region_lit
          refine gw_val (by kernel_rfl) (some 35) rfl (.agg (ar3 X Y Z)) (hXYZ _ _ _ _ _ rfl (by kernel_rfl) (by kernel_rfl)) ?_
          simp only [Act.put, List.setIfInBounds_toArray, List.set_cons_succ, List.set_cons_zero]
          refine run_to rfl (some 11) rfl (.pointer (some ⟨wr.heap.size, 0, none⟩)) (wr.alloc (.cells (ar3 zIt zIt zIt) 30)) (by kernel_rfl) ?_
          simp only [Act.put, List.setIfInBounds_toArray, List.set_cons_succ, List.set_cons_zero]
          refine gw_store (by kernel_rfl) rfl 30 (.tmp 11) (.tmp 35) rfl (.pointer (some ⟨wr.heap.size, 0, none⟩)) (.agg (ar3 X Y Z)) (by kernel_rfl) (by kernel_rfl) V2 hst ?_
          apply wpList_nil
          obtain ⟨ga, hga⟩ : ∃ ga, wr.heap.size = ga := ⟨_, rfl⟩
          rw [hga] at hbx ⊢
          clear hst hga hXYZ
          have h0 := BW.start hbx u12 u13 u14
          go_upto_region 7 with fail
          refine wp_region_inv (fun listed act9 V => ∃ b0 b1 b2 b3 b4 b5 b6 b7 b8 b9 b10 b11 : Bool, ∃ x12 x13 x14 : Value, listed = #[b0, b1, b2, b3, b4, b5, b6, b7, b8, b9, b10, b11] ∧ act9 = { tmps := #[.agg (itA x), .agg (itA y), .agg (itA z), .slice a n c, .pointer (some ⟨g4, 0, none⟩), .pointer (some ⟨g4 + 1, 0, none⟩), .pointer (some ⟨g4 + 1 + 1, 0, none⟩), undef, u8, .pointer (some ⟨gs, 0, none⟩), undef, .pointer (some ⟨ga, 0, none⟩), x12, x13, x14, .slice a n c, .slice (some ⟨W0.heap.size, 0, none⟩) 1 1, .bool false, undef, .slice a n c, .pointer (some ⟨gs, 0, none⟩), .agg (itA x), .agg (itA y), .agg (itA z), .agg (ar3 x y z), .pointer (some ⟨gs, 0, none⟩), .agg (itA p0), .pointer (some ⟨gs, 0, none⟩), .agg (itA p1), .pointer (some ⟨gs, 0, none⟩), .agg (itA p2), .agg (ar3 p0 p1 p2), .agg (ar6 x y z p0 p1 p2), .int .i64 i, .bool true, .agg (ar3 X Y Z), (cond b0 (.pointer (some ⟨ga, 0, none⟩)) (u36)), (cond b1 (.agg (itA X)) (u37)), (cond b2 (.pointer (some ⟨ga, 3, none⟩)) (u38)), (cond b3 (.agg (itA Y)) (u39)), (cond b4 (.pointer (some ⟨ga, 6, none⟩)) (u40)), (cond b5 (.agg (itA Z)) (u41)), u42, u43, u44, u45, u46, u47, u48, u49, u50, u51, u52, u53, u54, u55, u56, u57, u58, u59, u60, u61, u62, u63, u64, u65, u66, u67, u68, u69, u70, u71, u72, u73, u74, u75, u76, u77, u78, u79, u80, u81, u82, u83, u84, u85, u86, u87, u88, u89, undef], defers := [] } ∧ BW V2 ga X Y Z b6 b7 b8 b9 b10 b11 x12 x13 x14 V) (by kernel_rfl) (by kernel_rfl) ?_ ?_ ?_
          · exact ⟨false, false, false, false, false, false, false, false, false, false, false, false, u12, u13, u14, rfl, rfl, h0⟩
          · intro i9 listed act9 V hi9 hr hJ
            obtain ⟨b0, b1, b2, b3, b4, b5, b6, b7, b8, b9, b10, b11, x12, x13, x14, rfl, rfl, hF⟩ := hJ
            have hi2 : i9 < 12 := hi9
            have hi3 : i9 = 0 ∨ i9 = 1 ∨ i9 = 2 ∨ i9 = 3 ∨ i9 = 4 ∨ i9 = 5 ∨ i9 = 6 ∨ i9 = 7 ∨ i9 = 8 ∨ i9 = 9 ∨ i9 = 10 ∨ i9 = 11 := by omega
            rcases hi3 with rfl | rfl | rfl | rfl | rfl | rfl | rfl | rfl | rfl | rfl | rfl | rfl
            · obtain rfl : b0 = false := ready_self hr
              refine st_val rfl (by kernel_rfl) (some 36) rfl (.pointer (some ⟨ga, 0, none⟩)) V (idx_ar 0 (by omega) ga rfl (by kernel_rfl) (by kernel_rfl) V) ?_
              exact ⟨true, b1, b2, b3, b4, b5, b6, b7, b8, b9, b10, b11, x12, x13, x14, rfl, rfl, hF⟩
            · obtain rfl : b1 = false := ready_self hr
              obtain rfl : b0 = true := ready_dep hr 0 (by kernel_rfl)
              refine st_load rfl (by kernel_rfl) (some 37) rfl 24 (.tmp 36) rfl ⟨ga, 0, none⟩ (.agg (itA X)) (by kernel_rfl) (load_it (ar_range hF.bx).1) ?_
              exact ⟨true, true, b2, b3, b4, b5, b6, b7, b8, b9, b10, b11, x12, x13, x14, rfl, rfl, hF⟩
            · obtain rfl : b2 = false := ready_self hr
              refine st_val rfl (by kernel_rfl) (some 38) rfl (.pointer (some ⟨ga, 3, none⟩)) V (idx_ar 1 (by omega) ga rfl (by kernel_rfl) (by kernel_rfl) V) ?_
              exact ⟨b0, b1, true, b3, b4, b5, b6, b7, b8, b9, b10, b11, x12, x13, x14, rfl, rfl, hF⟩
            · obtain rfl : b3 = false := ready_self hr
              obtain rfl : b2 = true := ready_dep hr 2 (by kernel_rfl)
              refine st_load rfl (by kernel_rfl) (some 39) rfl 24 (.tmp 38) rfl ⟨ga, 3, none⟩ (.agg (itA Y)) (by kernel_rfl) (load_it (ar_range hF.bx).2.1) ?_
              exact ⟨b0, b1, true, true, b4, b5, b6, b7, b8, b9, b10, b11, x12, x13, x14, rfl, rfl, hF⟩
            · obtain rfl : b4 = false := ready_self hr
              refine st_val rfl (by kernel_rfl) (some 40) rfl (.pointer (some ⟨ga, 6, none⟩)) V (idx_ar 2 (by omega) ga rfl (by kernel_rfl) (by kernel_rfl) V) ?_
              exact ⟨b0, b1, b2, b3, true, b5, b6, b7, b8, b9, b10, b11, x12, x13, x14, rfl, rfl, hF⟩
            · obtain rfl : b5 = false := ready_self hr
              obtain rfl : b4 = true := ready_dep hr 4 (by kernel_rfl)
              refine st_load rfl (by kernel_rfl) (some 41) rfl 24 (.tmp 40) rfl ⟨ga, 6, none⟩ (.agg (itA Z)) (by kernel_rfl) (load_it (ar_range hF.bx).2.2) ?_
              exact ⟨b0, b1, b2, b3, true, true, b6, b7, b8, b9, b10, b11, x12, x13, x14, rfl, rfl, hF⟩
            · obtain rfl : b6 = false := ready_self hr
              refine st_val rfl (by kernel_rfl) (some 12) rfl (.pointer (some ⟨V.heap.size, 0, none⟩)) (V.alloc (.cells (itA zIt) 24)) (by kernel_rfl) ?_
              exact ⟨b0, b1, b2, b3, b4, b5, true, b7, b8, b9, b10, b11, _, x13, x14, rfl, rfl, hF.m1⟩
            · obtain rfl : b7 = false := ready_self hr
              refine st_val rfl (by kernel_rfl) (some 13) rfl (.pointer (some ⟨V.heap.size, 0, none⟩)) (V.alloc (.cells (itA zIt) 24)) (by kernel_rfl) ?_
              exact ⟨b0, b1, b2, b3, b4, b5, b6, true, b8, b9, b10, b11, x12, _, x14, rfl, rfl, hF.m2⟩
            · obtain rfl : b8 = false := ready_self hr
              refine st_val rfl (by kernel_rfl) (some 14) rfl (.pointer (some ⟨V.heap.size, 0, none⟩)) (V.alloc (.cells (itA zIt) 24)) (by kernel_rfl) ?_
              exact ⟨b0, b1, b2, b3, b4, b5, b6, b7, true, b9, b10, b11, x12, x13, _, rfl, rfl, hF.m3⟩
            · obtain rfl : b9 = false := ready_self hr
              obtain rfl : b1 = true := ready_dep hr 1 (by kernel_rfl)
              obtain rfl : b6 = true := ready_dep hr 6 (by kernel_rfl)
              obtain ⟨V3, hs3, hF3⟩ := hF.w1
              refine st_storeA rfl (by kernel_rfl) rfl 24 (.tmp 12) (.tmp 37) rfl x12 (.agg (itA X)) (by kernel_rfl) (by kernel_rfl) V3 hs3 ?_
              exact ⟨b0, true, b2, b3, b4, b5, true, b7, b8, true, b10, b11, x12, x13, x14, rfl, rfl, hF3⟩
            · obtain rfl : b10 = false := ready_self hr
              obtain rfl : b3 = true := ready_dep hr 3 (by kernel_rfl)
              obtain rfl : b7 = true := ready_dep hr 7 (by kernel_rfl)
              obtain ⟨V3, hs3, hF3⟩ := hF.w2
              refine st_storeA rfl (by kernel_rfl) rfl 24 (.tmp 13) (.tmp 39) rfl x13 (.agg (itA Y)) (by kernel_rfl) (by kernel_rfl) V3 hs3 ?_
              exact ⟨b0, b1, b2, true, b4, b5, b6, true, b8, b9, true, b11, x12, x13, x14, rfl, rfl, hF3⟩
            · obtain rfl : b11 = false := ready_self hr
              obtain rfl : b5 = true := ready_dep hr 5 (by kernel_rfl)
              obtain rfl : b8 = true := ready_dep hr 8 (by kernel_rfl)
              obtain ⟨V3, hs3, hF3⟩ := hF.w3
              refine st_storeA rfl (by kernel_rfl) rfl 24 (.tmp 14) (.tmp 41) rfl x14 (.agg (itA Z)) (by kernel_rfl) (by kernel_rfl) V3 hs3 ?_
              exact ⟨b0, b1, b2, b3, b4, true, b6, b7, true, b9, b10, true, x12, x13, x14, rfl, rfl, hF3⟩
          · intro act9 V hJ
            obtain ⟨b0, b1, b2, b3, b4, b5, b6, b7, b8, b9, b10, b11, x12, x13, x14, he, rfl, hF⟩ := hJ
            have he : (#[true, true, true, true, true, true, true, true, true, true, true, true] : Array Bool) = #[b0, b1, b2, b3, b4, b5, b6, b7, b8, b9, b10, b11] := he
            simp only [Array.mk.injEq, List.cons.injEq, and_true] at he
            obtain ⟨rfl, rfl, rfl, rfl, rfl, rfl, rfl, rfl, rfl, rfl, rfl, rfl⟩ := he
            simp only [cond_true]
            obtain ⟨g1, e1, -, hb1⟩ := hF.p1 rfl
            obtain ⟨g2, e2, -, hb2⟩ := hF.p2 rfl
            obtain ⟨g3, e3, -, hb3⟩ := hF.p3 rfl
            obtain ⟨V4, eV⟩ : ∃ V4, V = V4 := ⟨_, rfl⟩
            have hB4 : B3 V4 g1 g2 g3 X Y Z V4 := by rw [← eV]; exact ⟨Below.refl _ _, hb1, hb2, hb3⟩
            have HB4 : Hid (Below w.heap.size w V4) := Lib.hid (by rw [← eV]; exact HB2.out.trans (hF.bel.mono HB2.out.size))
            rw [eV, e1, e2, e3]
            clear hF h0 hb1 hb2 hb3 e1 e2 e3 eV hbx HB2
            have HXY : Hid (bf X Y = bf X Y) := Lib.hid rfl
            obtain ⟨p, hp⟩ : ∃ p, bf X Y = p := ⟨_, rfl⟩
            obtain ⟨q, hq⟩ : ∃ q, bf Y X = q := ⟨_, rfl⟩
            obtain ⟨r, hr⟩ : ∃ r, bf Y Z = r := ⟨_, rfl⟩
            obtain ⟨s, hs⟩ : ∃ s, bf X Z = s := ⟨_, rfl⟩
            obtain ⟨e, he⟩ : ∃ e, decide (X = Y) = e := ⟨_, rfl⟩
            have hcase : (p = true ∧ q = false ∧ e = false ∧ (r = false ∨ (r = true ∧ s = true))) ∨ (p = false ∧ q = true ∧ e = false) ∨ (p = false ∧ q = false ∧ e = true) := by
              by_cases hXY : X = Y
              · refine .inr (.inr ⟨?_, ?_, ?_⟩)
                · rw [← hp, hXY]; exact bf_irr _
                · rw [← hq, hXY]; exact bf_irr _
                · rw [← he]; exact decide_eq_true hXY
              · cases hp2 : p with
                | true =>
                  refine .inl ⟨rfl, ?_, ?_, ?_⟩
                  · rw [← hq]; exact bf_asym (hp.trans hp2)
                  · rw [← he]; exact decide_eq_false hXY
                  · cases hr2 : r with
                    | false => exact .inl rfl
                    | true => exact .inr ⟨rfl, by rw [← hs]; exact bf_trans (hp.trans hp2) (hr.trans hr2)⟩
                | false =>
                  refine .inr (.inl ⟨rfl, ?_, ?_⟩)
                  · rw [← hq]; exact bf_tot hXY (hp.trans hp2)
                  · rw [← he]; exact decide_eq_false hXY
            have HCP := Lib.hid (fun U (hU : B3 V4 g1 g2 g3 X Y Z U) => ((HBF.out U X Y).mono fun e9 w9 u => ⟨by rw [u.1, hp], hU.below u.2⟩ : Calls Try.prog 11 #[.agg (itA X), .agg (itA Y)] U fun e9 w9 => e9 = .returned (.bool p) ∧ B3 V4 g1 g2 g3 X Y Z w9))
            have HCQ := Lib.hid (fun U (hU : B3 V4 g1 g2 g3 X Y Z U) => ((HBF.out U Y X).mono fun e9 w9 u => ⟨by rw [u.1, hq], hU.below u.2⟩ : Calls Try.prog 11 #[.agg (itA Y), .agg (itA X)] U fun e9 w9 => e9 = .returned (.bool q) ∧ B3 V4 g1 g2 g3 X Y Z w9))
            have HCR := Lib.hid (fun U (hU : B3 V4 g1 g2 g3 X Y Z U) => ((HBF.out U Y Z).mono fun e9 w9 u => ⟨by rw [u.1, hr], hU.below u.2⟩ : Calls Try.prog 11 #[.agg (itA Y), .agg (itA Z)] U fun e9 w9 => e9 = .returned (.bool r) ∧ B3 V4 g1 g2 g3 X Y Z w9))
            have HCS := Lib.hid (fun U (hU : B3 V4 g1 g2 g3 X Y Z U) => ((HBF.out U X Z).mono fun e9 w9 u => ⟨by rw [u.1, hs], hU.below u.2⟩ : Calls Try.prog 11 #[.agg (itA X), .agg (itA Z)] U fun e9 w9 => e9 = .returned (.bool s) ∧ B3 V4 g1 g2 g3 X Y Z w9))
            have HRB := Lib.hid (fun U (hU : B3 V4 g1 g2 g3 X Y Z U) => ((rbefore_it X Y U).mono fun e9 w9 u => ⟨by rw [u.1, hp], hU.below u.2.1⟩ : Calls Try.prog 12 #[.agg (itA X), .agg (itA Y)] U fun e9 w9 => e9 = .returned (.bool p) ∧ B3 V4 g1 g2 g3 X Y Z w9))
            have HE := Lib.hid he
            clear hp hq hr hs he HXY
            go_upto_region 8 with fail
            rcases hcase with ⟨rfl, rfl, rfl, rfl | ⟨rfl, rfl⟩⟩ | ⟨rfl, rfl, rfl⟩ | ⟨rfl, rfl, rfl⟩
            · refine wp_region_class (C := fun U => B3 V4 g1 g2 g3 X Y Z U) (by kernel_rfl) (by kernel_rfl) (⟨hB4.bel.drew, hB4.b1, hB4.b2, hB4.b3⟩) ?_
              refine gq_load (by kernel_rfl) (some 42) rfl 24 (.tmp 12) rfl ⟨g1, 0, none⟩ (.agg (itA X)) (by kernel_rfl) (fun U hU => load_box hU.b1) ?_
              simp only [Act.put, List.setIfInBounds_toArray, List.set_cons_succ, List.set_cons_zero]
              refine gq_load (by kernel_rfl) (some 43) rfl 24 (.tmp 13) rfl ⟨g2, 0, none⟩ (.agg (itA Y)) (by kernel_rfl) (fun U hU => load_box hU.b2) ?_
              simp only [Act.put, List.setIfInBounds_toArray, List.set_cons_succ, List.set_cons_zero]
              refine gq_call (by kernel_rfl) (some 44) rfl 11 #[.agg (itA X), .agg (itA Y)] (.bool true) (fun U hU => by kernel_rfl) (fun U hU => HCP.out U hU) ?_
              simp only [Act.put, List.setIfInBounds_toArray, List.set_cons_succ, List.set_cons_zero]
              refine gq_load (by kernel_rfl) (some 45) rfl 24 (.tmp 12) rfl ⟨g1, 0, none⟩ (.agg (itA X)) (by kernel_rfl) (fun U hU => load_box hU.b1) ?_
              simp only [Act.put, List.setIfInBounds_toArray, List.set_cons_succ, List.set_cons_zero]
              refine gq_load (by kernel_rfl) (some 46) rfl 24 (.tmp 13) rfl ⟨g2, 0, none⟩ (.agg (itA Y)) (by kernel_rfl) (fun U hU => load_box hU.b2) ?_
              simp only [Act.put, List.setIfInBounds_toArray, List.set_cons_succ, List.set_cons_zero]
              refine gq_call (by kernel_rfl) (some 47) rfl 12 #[.agg (itA X), .agg (itA Y)] (.bool true) (fun U hU => by kernel_rfl) (fun U hU => HRB.out U hU) ?_
              simp only [Act.put, List.setIfInBounds_toArray, List.set_cons_succ, List.set_cons_zero]
              refine gq_val (by kernel_rfl) (some 48) rfl (.bool false) (fun U hU => neq_bool rfl true (by kernel_rfl) (by kernel_rfl) U) ?_
              simp only [Act.put, List.setIfInBounds_toArray, List.set_cons_succ, List.set_cons_zero]
              refine gq_val (by kernel_rfl) (some 49) rfl (.bool false) (fun U hU => by kernel_rfl) ?_
              simp only [Act.put, List.setIfInBounds_toArray, List.set_cons_succ, List.set_cons_zero]
              refine gq_load (by kernel_rfl) (some 50) rfl 24 (.tmp 12) rfl ⟨g1, 0, none⟩ (.agg (itA X)) (by kernel_rfl) (fun U hU => load_box hU.b1) ?_
              simp only [Act.put, List.setIfInBounds_toArray, List.set_cons_succ, List.set_cons_zero]
              refine gq_load (by kernel_rfl) (some 51) rfl 24 (.tmp 13) rfl ⟨g2, 0, none⟩ (.agg (itA Y)) (by kernel_rfl) (fun U hU => load_box hU.b2) ?_
              simp only [Act.put, List.setIfInBounds_toArray, List.set_cons_succ, List.set_cons_zero]
              refine gq_call (by kernel_rfl) (some 52) rfl 11 #[.agg (itA X), .agg (itA Y)] (.bool true) (fun U hU => by kernel_rfl) (fun U hU => HCP.out U hU) ?_
              simp only [Act.put, List.setIfInBounds_toArray, List.set_cons_succ, List.set_cons_zero]
              refine gq_val (by kernel_rfl) (some 53) rfl (.bool true) (fun U hU => by kernel_rfl) ?_
              simp only [Act.put, List.setIfInBounds_toArray, List.set_cons_succ, List.set_cons_zero]
              refine gq_load (by kernel_rfl) (some 54) rfl 24 (.tmp 13) rfl ⟨g2, 0, none⟩ (.agg (itA Y)) (by kernel_rfl) (fun U hU => load_box hU.b2) ?_
              simp only [Act.put, List.setIfInBounds_toArray, List.set_cons_succ, List.set_cons_zero]
              refine gq_load (by kernel_rfl) (some 55) rfl 24 (.tmp 12) rfl ⟨g1, 0, none⟩ (.agg (itA X)) (by kernel_rfl) (fun U hU => load_box hU.b1) ?_
              simp only [Act.put, List.setIfInBounds_toArray, List.set_cons_succ, List.set_cons_zero]
              refine gq_call (by kernel_rfl) (some 56) rfl 11 #[.agg (itA Y), .agg (itA X)] (.bool false) (fun U hU => by kernel_rfl) (fun U hU => HCQ.out U hU) ?_
              simp only [Act.put, List.setIfInBounds_toArray, List.set_cons_succ, List.set_cons_zero]
              refine gq_val (by kernel_rfl) (some 57) rfl (.bool false) (fun U hU => by kernel_rfl) ?_
              simp only [Act.put, List.setIfInBounds_toArray, List.set_cons_succ, List.set_cons_zero]
              refine gq_val (by kernel_rfl) (some 58) rfl (.bool false) (fun U hU => by kernel_rfl) ?_
              simp only [Act.put, List.setIfInBounds_toArray, List.set_cons_succ, List.set_cons_zero]
              refine gq_val (by kernel_rfl) (some 59) rfl (.bool false) (fun U hU => by kernel_rfl) ?_
              simp only [Act.put, List.setIfInBounds_toArray, List.set_cons_succ, List.set_cons_zero]
              refine gq_load (by kernel_rfl) (some 60) rfl 24 (.tmp 12) rfl ⟨g1, 0, none⟩ (.agg (itA X)) (by kernel_rfl) (fun U hU => load_box hU.b1) ?_
              simp only [Act.put, List.setIfInBounds_toArray, List.set_cons_succ, List.set_cons_zero]
              refine gq_load (by kernel_rfl) (some 61) rfl 24 (.tmp 13) rfl ⟨g2, 0, none⟩ (.agg (itA Y)) (by kernel_rfl) (fun U hU => load_box hU.b2) ?_
              simp only [Act.put, List.setIfInBounds_toArray, List.set_cons_succ, List.set_cons_zero]
              refine gq_call (by kernel_rfl) (some 62) rfl 11 #[.agg (itA X), .agg (itA Y)] (.bool true) (fun U hU => by kernel_rfl) (fun U hU => HCP.out U hU) ?_
              simp only [Act.put, List.setIfInBounds_toArray, List.set_cons_succ, List.set_cons_zero]
              refine gq_val (by kernel_rfl) (some 63) rfl (.bool true) (fun U hU => by kernel_rfl) ?_
              simp only [Act.put, List.setIfInBounds_toArray, List.set_cons_succ, List.set_cons_zero]
              with_reducible refine gq_not (by kernel_rfl) (some 64) rfl ?_
              simp only [Act.put, List.setIfInBounds_toArray, List.set_cons_succ, List.set_cons_zero]
              with_reducible refine gq_not (by kernel_rfl) (some 65) rfl ?_
              simp only [Act.put, List.setIfInBounds_toArray, List.set_cons_succ, List.set_cons_zero]
              with_reducible refine gq_not (by kernel_rfl) (some 66) rfl ?_
              simp only [Act.put, List.setIfInBounds_toArray, List.set_cons_succ, List.set_cons_zero]
              refine gq_val (by kernel_rfl) (some 67) rfl (.bool true) (fun U hU => by kernel_rfl) ?_
              simp only [Act.put, List.setIfInBounds_toArray, List.set_cons_succ, List.set_cons_zero]
              refine gq_load (by kernel_rfl) (some 68) rfl 24 (.tmp 12) rfl ⟨g1, 0, none⟩ (.agg (itA X)) (by kernel_rfl) (fun U hU => load_box hU.b1) ?_
              simp only [Act.put, List.setIfInBounds_toArray, List.set_cons_succ, List.set_cons_zero]
              refine gq_load (by kernel_rfl) (some 69) rfl 24 (.tmp 13) rfl ⟨g2, 0, none⟩ (.agg (itA Y)) (by kernel_rfl) (fun U hU => load_box hU.b2) ?_
              simp only [Act.put, List.setIfInBounds_toArray, List.set_cons_succ, List.set_cons_zero]
              refine gq_val (by kernel_rfl) (some 70) rfl (.bool false) (fun U hU => by rw [show (false : Bool) = decide (X = Y) from HE.out.symm]; exact eq_it rfl X Y (by kernel_rfl) (by kernel_rfl) U) ?_
              simp only [Act.put, List.setIfInBounds_toArray, List.set_cons_succ, List.set_cons_zero]
              refine gq_val (by kernel_rfl) (some 71) rfl (.bool false) (fun U hU => eq_bool rfl true false (by kernel_rfl) (by kernel_rfl) U) ?_
              simp only [Act.put, List.setIfInBounds_toArray, List.set_cons_succ, List.set_cons_zero]
              refine gq_val (by kernel_rfl) (some 72) rfl (.bool false) (fun U hU => by kernel_rfl) ?_
              simp only [Act.put, List.setIfInBounds_toArray, List.set_cons_succ, List.set_cons_zero]
              refine gq_val (by kernel_rfl) (some 73) rfl (.bool false) (fun U hU => by kernel_rfl) ?_
              simp only [Act.put, List.setIfInBounds_toArray, List.set_cons_succ, List.set_cons_zero]
              refine gq_load (by kernel_rfl) (some 74) rfl 24 (.tmp 12) rfl ⟨g1, 0, none⟩ (.agg (itA X)) (by kernel_rfl) (fun U hU => load_box hU.b1) ?_
              simp only [Act.put, List.setIfInBounds_toArray, List.set_cons_succ, List.set_cons_zero]
              refine gq_load (by kernel_rfl) (some 75) rfl 24 (.tmp 13) rfl ⟨g2, 0, none⟩ (.agg (itA Y)) (by kernel_rfl) (fun U hU => load_box hU.b2) ?_
              simp only [Act.put, List.setIfInBounds_toArray, List.set_cons_succ, List.set_cons_zero]
              refine gq_call (by kernel_rfl) (some 76) rfl 11 #[.agg (itA X), .agg (itA Y)] (.bool true) (fun U hU => by kernel_rfl) (fun U hU => HCP.out U hU) ?_
              simp only [Act.put, List.setIfInBounds_toArray, List.set_cons_succ, List.set_cons_zero]
              refine gq_val (by kernel_rfl) (some 77) rfl (.bool true) (fun U hU => by kernel_rfl) ?_
              simp only [Act.put, List.setIfInBounds_toArray, List.set_cons_succ, List.set_cons_zero]
              refine gq_load (by kernel_rfl) (some 78) rfl 24 (.tmp 13) rfl ⟨g2, 0, none⟩ (.agg (itA Y)) (by kernel_rfl) (fun U hU => load_box hU.b2) ?_
              simp only [Act.put, List.setIfInBounds_toArray, List.set_cons_succ, List.set_cons_zero]
              refine gq_load (by kernel_rfl) (some 79) rfl 24 (.tmp 14) rfl ⟨g3, 0, none⟩ (.agg (itA Z)) (by kernel_rfl) (fun U hU => load_box hU.b3) ?_
              simp only [Act.put, List.setIfInBounds_toArray, List.set_cons_succ, List.set_cons_zero]
              refine gq_call (by kernel_rfl) (some 80) rfl 11 #[.agg (itA Y), .agg (itA Z)] (.bool false) (fun U hU => by kernel_rfl) (fun U hU => HCR.out U hU) ?_
              simp only [Act.put, List.setIfInBounds_toArray, List.set_cons_succ, List.set_cons_zero]
              refine gq_val (by kernel_rfl) (some 81) rfl (.bool false) (fun U hU => by kernel_rfl) ?_
              simp only [Act.put, List.setIfInBounds_toArray, List.set_cons_succ, List.set_cons_zero]
              refine gq_val (by kernel_rfl) (some 82) rfl (.bool false) (fun U hU => by kernel_rfl) ?_
              simp only [Act.put, List.setIfInBounds_toArray, List.set_cons_succ, List.set_cons_zero]
              with_reducible refine gq_not (by kernel_rfl) (some 83) rfl ?_
              simp only [Act.put, List.setIfInBounds_toArray, List.set_cons_succ, List.set_cons_zero]
              with_reducible refine gq_not (by kernel_rfl) (some 84) rfl ?_
              simp only [Act.put, List.setIfInBounds_toArray, List.set_cons_succ, List.set_cons_zero]
              with_reducible refine gq_not (by kernel_rfl) (some 85) rfl ?_
              simp only [Act.put, List.setIfInBounds_toArray, List.set_cons_succ, List.set_cons_zero]
              with_reducible refine gq_not (by kernel_rfl) (some 86) rfl ?_
              simp only [Act.put, List.setIfInBounds_toArray, List.set_cons_succ, List.set_cons_zero]
              refine gq_val (by kernel_rfl) (some 87) rfl (.bool false) (fun U hU => by kernel_rfl) ?_
              simp only [Act.put, List.setIfInBounds_toArray, List.set_cons_succ, List.set_cons_zero]
              refine gq_val (by kernel_rfl) (some 88) rfl (.bool false) (fun U hU => by kernel_rfl) ?_
              simp only [Act.put, List.setIfInBounds_toArray, List.set_cons_succ, List.set_cons_zero]
              apply wpQuiet_nil
              intro V5 hV5
              have HV := Lib.hid (HB4.out.trans (hV5.bel.mono HB4.out.size))
              clear hV5 hB4 HCP HCQ HCR HCS HRB HE HB4
              go_upto_region 10 with fail
              apply wp_region_lit
              refine gw_val (by kernel_rfl) (some 89) rfl (.int .i64 (i + 1 : Nat)) (add_one rfl i (by omega) (by kernel_rfl) _) ?_
              simp only [Act.put, List.setIfInBounds_toArray, List.set_cons_succ, List.set_cons_zero]
              refine gw_val (by kernel_rfl) (some 33) rfl (.int .i64 (i + 1 : Nat)) (by kernel_rfl) ?_
              simp only [Act.put, List.setIfInBounds_toArray, List.set_cons_succ, List.set_cons_zero]
              apply wpList_nil
              go_wp2_with fail
              go_roundg (gk - 1)
              case measure => have := HG.out; omega
              case rel => exact ⟨i + 1, rfl, HG.out.2.2, HV.out, HG.out.1⟩
            · refine wp_region_class (C := fun U => B3 V4 g1 g2 g3 X Y Z U) (by kernel_rfl) (by kernel_rfl) (⟨hB4.bel.drew, hB4.b1, hB4.b2, hB4.b3⟩) ?_
              refine gq_load (by kernel_rfl) (some 42) rfl 24 (.tmp 12) rfl ⟨g1, 0, none⟩ (.agg (itA X)) (by kernel_rfl) (fun U hU => load_box hU.b1) ?_
              simp only [Act.put, List.setIfInBounds_toArray, List.set_cons_succ, List.set_cons_zero]
              refine gq_load (by kernel_rfl) (some 43) rfl 24 (.tmp 13) rfl ⟨g2, 0, none⟩ (.agg (itA Y)) (by kernel_rfl) (fun U hU => load_box hU.b2) ?_
              simp only [Act.put, List.setIfInBounds_toArray, List.set_cons_succ, List.set_cons_zero]
              refine gq_call (by kernel_rfl) (some 44) rfl 11 #[.agg (itA X), .agg (itA Y)] (.bool true) (fun U hU => by kernel_rfl) (fun U hU => HCP.out U hU) ?_
              simp only [Act.put, List.setIfInBounds_toArray, List.set_cons_succ, List.set_cons_zero]
              refine gq_load (by kernel_rfl) (some 45) rfl 24 (.tmp 12) rfl ⟨g1, 0, none⟩ (.agg (itA X)) (by kernel_rfl) (fun U hU => load_box hU.b1) ?_
              simp only [Act.put, List.setIfInBounds_toArray, List.set_cons_succ, List.set_cons_zero]
              refine gq_load (by kernel_rfl) (some 46) rfl 24 (.tmp 13) rfl ⟨g2, 0, none⟩ (.agg (itA Y)) (by kernel_rfl) (fun U hU => load_box hU.b2) ?_
              simp only [Act.put, List.setIfInBounds_toArray, List.set_cons_succ, List.set_cons_zero]
              refine gq_call (by kernel_rfl) (some 47) rfl 12 #[.agg (itA X), .agg (itA Y)] (.bool true) (fun U hU => by kernel_rfl) (fun U hU => HRB.out U hU) ?_
              simp only [Act.put, List.setIfInBounds_toArray, List.set_cons_succ, List.set_cons_zero]
              refine gq_val (by kernel_rfl) (some 48) rfl (.bool false) (fun U hU => neq_bool rfl true (by kernel_rfl) (by kernel_rfl) U) ?_
              simp only [Act.put, List.setIfInBounds_toArray, List.set_cons_succ, List.set_cons_zero]
              refine gq_val (by kernel_rfl) (some 49) rfl (.bool false) (fun U hU => by kernel_rfl) ?_
              simp only [Act.put, List.setIfInBounds_toArray, List.set_cons_succ, List.set_cons_zero]
              refine gq_load (by kernel_rfl) (some 50) rfl 24 (.tmp 12) rfl ⟨g1, 0, none⟩ (.agg (itA X)) (by kernel_rfl) (fun U hU => load_box hU.b1) ?_
              simp only [Act.put, List.setIfInBounds_toArray, List.set_cons_succ, List.set_cons_zero]
              refine gq_load (by kernel_rfl) (some 51) rfl 24 (.tmp 13) rfl ⟨g2, 0, none⟩ (.agg (itA Y)) (by kernel_rfl) (fun U hU => load_box hU.b2) ?_
              simp only [Act.put, List.setIfInBounds_toArray, List.set_cons_succ, List.set_cons_zero]
              refine gq_call (by kernel_rfl) (some 52) rfl 11 #[.agg (itA X), .agg (itA Y)] (.bool true) (fun U hU => by kernel_rfl) (fun U hU => HCP.out U hU) ?_
              simp only [Act.put, List.setIfInBounds_toArray, List.set_cons_succ, List.set_cons_zero]
              refine gq_val (by kernel_rfl) (some 53) rfl (.bool true) (fun U hU => by kernel_rfl) ?_
              simp only [Act.put, List.setIfInBounds_toArray, List.set_cons_succ, List.set_cons_zero]
              refine gq_load (by kernel_rfl) (some 54) rfl 24 (.tmp 13) rfl ⟨g2, 0, none⟩ (.agg (itA Y)) (by kernel_rfl) (fun U hU => load_box hU.b2) ?_
              simp only [Act.put, List.setIfInBounds_toArray, List.set_cons_succ, List.set_cons_zero]
              refine gq_load (by kernel_rfl) (some 55) rfl 24 (.tmp 12) rfl ⟨g1, 0, none⟩ (.agg (itA X)) (by kernel_rfl) (fun U hU => load_box hU.b1) ?_
              simp only [Act.put, List.setIfInBounds_toArray, List.set_cons_succ, List.set_cons_zero]
              refine gq_call (by kernel_rfl) (some 56) rfl 11 #[.agg (itA Y), .agg (itA X)] (.bool false) (fun U hU => by kernel_rfl) (fun U hU => HCQ.out U hU) ?_
              simp only [Act.put, List.setIfInBounds_toArray, List.set_cons_succ, List.set_cons_zero]
              refine gq_val (by kernel_rfl) (some 57) rfl (.bool false) (fun U hU => by kernel_rfl) ?_
              simp only [Act.put, List.setIfInBounds_toArray, List.set_cons_succ, List.set_cons_zero]
              refine gq_val (by kernel_rfl) (some 58) rfl (.bool false) (fun U hU => by kernel_rfl) ?_
              simp only [Act.put, List.setIfInBounds_toArray, List.set_cons_succ, List.set_cons_zero]
              refine gq_val (by kernel_rfl) (some 59) rfl (.bool false) (fun U hU => by kernel_rfl) ?_
              simp only [Act.put, List.setIfInBounds_toArray, List.set_cons_succ, List.set_cons_zero]
              refine gq_load (by kernel_rfl) (some 60) rfl 24 (.tmp 12) rfl ⟨g1, 0, none⟩ (.agg (itA X)) (by kernel_rfl) (fun U hU => load_box hU.b1) ?_
              simp only [Act.put, List.setIfInBounds_toArray, List.set_cons_succ, List.set_cons_zero]
              refine gq_load (by kernel_rfl) (some 61) rfl 24 (.tmp 13) rfl ⟨g2, 0, none⟩ (.agg (itA Y)) (by kernel_rfl) (fun U hU => load_box hU.b2) ?_
              simp only [Act.put, List.setIfInBounds_toArray, List.set_cons_succ, List.set_cons_zero]
              refine gq_call (by kernel_rfl) (some 62) rfl 11 #[.agg (itA X), .agg (itA Y)] (.bool true) (fun U hU => by kernel_rfl) (fun U hU => HCP.out U hU) ?_
              simp only [Act.put, List.setIfInBounds_toArray, List.set_cons_succ, List.set_cons_zero]
              refine gq_val (by kernel_rfl) (some 63) rfl (.bool true) (fun U hU => by kernel_rfl) ?_
              simp only [Act.put, List.setIfInBounds_toArray, List.set_cons_succ, List.set_cons_zero]
              with_reducible refine gq_not (by kernel_rfl) (some 64) rfl ?_
              simp only [Act.put, List.setIfInBounds_toArray, List.set_cons_succ, List.set_cons_zero]
              with_reducible refine gq_not (by kernel_rfl) (some 65) rfl ?_
              simp only [Act.put, List.setIfInBounds_toArray, List.set_cons_succ, List.set_cons_zero]
              with_reducible refine gq_not (by kernel_rfl) (some 66) rfl ?_
              simp only [Act.put, List.setIfInBounds_toArray, List.set_cons_succ, List.set_cons_zero]
              refine gq_val (by kernel_rfl) (some 67) rfl (.bool true) (fun U hU => by kernel_rfl) ?_
              simp only [Act.put, List.setIfInBounds_toArray, List.set_cons_succ, List.set_cons_zero]
              refine gq_load (by kernel_rfl) (some 68) rfl 24 (.tmp 12) rfl ⟨g1, 0, none⟩ (.agg (itA X)) (by kernel_rfl) (fun U hU => load_box hU.b1) ?_
              simp only [Act.put, List.setIfInBounds_toArray, List.set_cons_succ, List.set_cons_zero]
              refine gq_load (by kernel_rfl) (some 69) rfl 24 (.tmp 13) rfl ⟨g2, 0, none⟩ (.agg (itA Y)) (by kernel_rfl) (fun U hU => load_box hU.b2) ?_
              simp only [Act.put, List.setIfInBounds_toArray, List.set_cons_succ, List.set_cons_zero]
              refine gq_val (by kernel_rfl) (some 70) rfl (.bool false) (fun U hU => by rw [show (false : Bool) = decide (X = Y) from HE.out.symm]; exact eq_it rfl X Y (by kernel_rfl) (by kernel_rfl) U) ?_
              simp only [Act.put, List.setIfInBounds_toArray, List.set_cons_succ, List.set_cons_zero]
              refine gq_val (by kernel_rfl) (some 71) rfl (.bool false) (fun U hU => eq_bool rfl true false (by kernel_rfl) (by kernel_rfl) U) ?_
              simp only [Act.put, List.setIfInBounds_toArray, List.set_cons_succ, List.set_cons_zero]
              refine gq_val (by kernel_rfl) (some 72) rfl (.bool false) (fun U hU => by kernel_rfl) ?_
              simp only [Act.put, List.setIfInBounds_toArray, List.set_cons_succ, List.set_cons_zero]
              refine gq_val (by kernel_rfl) (some 73) rfl (.bool false) (fun U hU => by kernel_rfl) ?_
              simp only [Act.put, List.setIfInBounds_toArray, List.set_cons_succ, List.set_cons_zero]
              refine gq_load (by kernel_rfl) (some 74) rfl 24 (.tmp 12) rfl ⟨g1, 0, none⟩ (.agg (itA X)) (by kernel_rfl) (fun U hU => load_box hU.b1) ?_
              simp only [Act.put, List.setIfInBounds_toArray, List.set_cons_succ, List.set_cons_zero]
              refine gq_load (by kernel_rfl) (some 75) rfl 24 (.tmp 13) rfl ⟨g2, 0, none⟩ (.agg (itA Y)) (by kernel_rfl) (fun U hU => load_box hU.b2) ?_
              simp only [Act.put, List.setIfInBounds_toArray, List.set_cons_succ, List.set_cons_zero]
              refine gq_call (by kernel_rfl) (some 76) rfl 11 #[.agg (itA X), .agg (itA Y)] (.bool true) (fun U hU => by kernel_rfl) (fun U hU => HCP.out U hU) ?_
              simp only [Act.put, List.setIfInBounds_toArray, List.set_cons_succ, List.set_cons_zero]
              refine gq_val (by kernel_rfl) (some 77) rfl (.bool true) (fun U hU => by kernel_rfl) ?_
              simp only [Act.put, List.setIfInBounds_toArray, List.set_cons_succ, List.set_cons_zero]
              refine gq_load (by kernel_rfl) (some 78) rfl 24 (.tmp 13) rfl ⟨g2, 0, none⟩ (.agg (itA Y)) (by kernel_rfl) (fun U hU => load_box hU.b2) ?_
              simp only [Act.put, List.setIfInBounds_toArray, List.set_cons_succ, List.set_cons_zero]
              refine gq_load (by kernel_rfl) (some 79) rfl 24 (.tmp 14) rfl ⟨g3, 0, none⟩ (.agg (itA Z)) (by kernel_rfl) (fun U hU => load_box hU.b3) ?_
              simp only [Act.put, List.setIfInBounds_toArray, List.set_cons_succ, List.set_cons_zero]
              refine gq_call (by kernel_rfl) (some 80) rfl 11 #[.agg (itA Y), .agg (itA Z)] (.bool true) (fun U hU => by kernel_rfl) (fun U hU => HCR.out U hU) ?_
              simp only [Act.put, List.setIfInBounds_toArray, List.set_cons_succ, List.set_cons_zero]
              refine gq_val (by kernel_rfl) (some 81) rfl (.bool true) (fun U hU => by kernel_rfl) ?_
              simp only [Act.put, List.setIfInBounds_toArray, List.set_cons_succ, List.set_cons_zero]
              refine gq_val (by kernel_rfl) (some 82) rfl (.bool true) (fun U hU => by kernel_rfl) ?_
              simp only [Act.put, List.setIfInBounds_toArray, List.set_cons_succ, List.set_cons_zero]
              refine gq_load (by kernel_rfl) (some 83) rfl 24 (.tmp 12) rfl ⟨g1, 0, none⟩ (.agg (itA X)) (by kernel_rfl) (fun U hU => load_box hU.b1) ?_
              simp only [Act.put, List.setIfInBounds_toArray, List.set_cons_succ, List.set_cons_zero]
              refine gq_load (by kernel_rfl) (some 84) rfl 24 (.tmp 14) rfl ⟨g3, 0, none⟩ (.agg (itA Z)) (by kernel_rfl) (fun U hU => load_box hU.b3) ?_
              simp only [Act.put, List.setIfInBounds_toArray, List.set_cons_succ, List.set_cons_zero]
              refine gq_call (by kernel_rfl) (some 85) rfl 11 #[.agg (itA X), .agg (itA Z)] (.bool true) (fun U hU => by kernel_rfl) (fun U hU => HCS.out U hU) ?_
              simp only [Act.put, List.setIfInBounds_toArray, List.set_cons_succ, List.set_cons_zero]
              refine gq_val (by kernel_rfl) (some 86) rfl (.bool false) (fun U hU => by kernel_rfl) ?_
              simp only [Act.put, List.setIfInBounds_toArray, List.set_cons_succ, List.set_cons_zero]
              refine gq_val (by kernel_rfl) (some 87) rfl (.bool false) (fun U hU => by kernel_rfl) ?_
              simp only [Act.put, List.setIfInBounds_toArray, List.set_cons_succ, List.set_cons_zero]
              refine gq_val (by kernel_rfl) (some 88) rfl (.bool false) (fun U hU => by kernel_rfl) ?_
              simp only [Act.put, List.setIfInBounds_toArray, List.set_cons_succ, List.set_cons_zero]
              apply wpQuiet_nil
              intro V5 hV5
              have HV := Lib.hid (HB4.out.trans (hV5.bel.mono HB4.out.size))
              clear hV5 hB4 HCP HCQ HCR HCS HRB HE HB4
              go_upto_region 10 with fail
              apply wp_region_lit
              refine gw_val (by kernel_rfl) (some 89) rfl (.int .i64 (i + 1 : Nat)) (add_one rfl i (by omega) (by kernel_rfl) _) ?_
              simp only [Act.put, List.setIfInBounds_toArray, List.set_cons_succ, List.set_cons_zero]
              refine gw_val (by kernel_rfl) (some 33) rfl (.int .i64 (i + 1 : Nat)) (by kernel_rfl) ?_
              simp only [Act.put, List.setIfInBounds_toArray, List.set_cons_succ, List.set_cons_zero]
              apply wpList_nil
              go_wp2_with fail
              go_roundg (gk - 1)
              case measure => have := HG.out; omega
              case rel => exact ⟨i + 1, rfl, HG.out.2.2, HV.out, HG.out.1⟩
            · refine wp_region_class (C := fun U => B3 V4 g1 g2 g3 X Y Z U) (by kernel_rfl) (by kernel_rfl) (⟨hB4.bel.drew, hB4.b1, hB4.b2, hB4.b3⟩) ?_
              refine gq_load (by kernel_rfl) (some 42) rfl 24 (.tmp 12) rfl ⟨g1, 0, none⟩ (.agg (itA X)) (by kernel_rfl) (fun U hU => load_box hU.b1) ?_
              simp only [Act.put, List.setIfInBounds_toArray, List.set_cons_succ, List.set_cons_zero]
              refine gq_load (by kernel_rfl) (some 43) rfl 24 (.tmp 13) rfl ⟨g2, 0, none⟩ (.agg (itA Y)) (by kernel_rfl) (fun U hU => load_box hU.b2) ?_
              simp only [Act.put, List.setIfInBounds_toArray, List.set_cons_succ, List.set_cons_zero]
              refine gq_call (by kernel_rfl) (some 44) rfl 11 #[.agg (itA X), .agg (itA Y)] (.bool false) (fun U hU => by kernel_rfl) (fun U hU => HCP.out U hU) ?_
              simp only [Act.put, List.setIfInBounds_toArray, List.set_cons_succ, List.set_cons_zero]
              refine gq_load (by kernel_rfl) (some 45) rfl 24 (.tmp 12) rfl ⟨g1, 0, none⟩ (.agg (itA X)) (by kernel_rfl) (fun U hU => load_box hU.b1) ?_
              simp only [Act.put, List.setIfInBounds_toArray, List.set_cons_succ, List.set_cons_zero]
              refine gq_load (by kernel_rfl) (some 46) rfl 24 (.tmp 13) rfl ⟨g2, 0, none⟩ (.agg (itA Y)) (by kernel_rfl) (fun U hU => load_box hU.b2) ?_
              simp only [Act.put, List.setIfInBounds_toArray, List.set_cons_succ, List.set_cons_zero]
              refine gq_call (by kernel_rfl) (some 47) rfl 12 #[.agg (itA X), .agg (itA Y)] (.bool false) (fun U hU => by kernel_rfl) (fun U hU => HRB.out U hU) ?_
              simp only [Act.put, List.setIfInBounds_toArray, List.set_cons_succ, List.set_cons_zero]
              refine gq_val (by kernel_rfl) (some 48) rfl (.bool false) (fun U hU => neq_bool rfl false (by kernel_rfl) (by kernel_rfl) U) ?_
              simp only [Act.put, List.setIfInBounds_toArray, List.set_cons_succ, List.set_cons_zero]
              refine gq_val (by kernel_rfl) (some 49) rfl (.bool false) (fun U hU => by kernel_rfl) ?_
              simp only [Act.put, List.setIfInBounds_toArray, List.set_cons_succ, List.set_cons_zero]
              refine gq_load (by kernel_rfl) (some 50) rfl 24 (.tmp 12) rfl ⟨g1, 0, none⟩ (.agg (itA X)) (by kernel_rfl) (fun U hU => load_box hU.b1) ?_
              simp only [Act.put, List.setIfInBounds_toArray, List.set_cons_succ, List.set_cons_zero]
              refine gq_load (by kernel_rfl) (some 51) rfl 24 (.tmp 13) rfl ⟨g2, 0, none⟩ (.agg (itA Y)) (by kernel_rfl) (fun U hU => load_box hU.b2) ?_
              simp only [Act.put, List.setIfInBounds_toArray, List.set_cons_succ, List.set_cons_zero]
              refine gq_call (by kernel_rfl) (some 52) rfl 11 #[.agg (itA X), .agg (itA Y)] (.bool false) (fun U hU => by kernel_rfl) (fun U hU => HCP.out U hU) ?_
              simp only [Act.put, List.setIfInBounds_toArray, List.set_cons_succ, List.set_cons_zero]
              refine gq_val (by kernel_rfl) (some 53) rfl (.bool false) (fun U hU => by kernel_rfl) ?_
              simp only [Act.put, List.setIfInBounds_toArray, List.set_cons_succ, List.set_cons_zero]
              with_reducible refine gq_not (by kernel_rfl) (some 54) rfl ?_
              simp only [Act.put, List.setIfInBounds_toArray, List.set_cons_succ, List.set_cons_zero]
              with_reducible refine gq_not (by kernel_rfl) (some 55) rfl ?_
              simp only [Act.put, List.setIfInBounds_toArray, List.set_cons_succ, List.set_cons_zero]
              with_reducible refine gq_not (by kernel_rfl) (some 56) rfl ?_
              simp only [Act.put, List.setIfInBounds_toArray, List.set_cons_succ, List.set_cons_zero]
              refine gq_val (by kernel_rfl) (some 57) rfl (.bool false) (fun U hU => by kernel_rfl) ?_
              simp only [Act.put, List.setIfInBounds_toArray, List.set_cons_succ, List.set_cons_zero]
              refine gq_val (by kernel_rfl) (some 58) rfl (.bool false) (fun U hU => by kernel_rfl) ?_
              simp only [Act.put, List.setIfInBounds_toArray, List.set_cons_succ, List.set_cons_zero]
              refine gq_val (by kernel_rfl) (some 59) rfl (.bool false) (fun U hU => by kernel_rfl) ?_
              simp only [Act.put, List.setIfInBounds_toArray, List.set_cons_succ, List.set_cons_zero]
              refine gq_load (by kernel_rfl) (some 60) rfl 24 (.tmp 12) rfl ⟨g1, 0, none⟩ (.agg (itA X)) (by kernel_rfl) (fun U hU => load_box hU.b1) ?_
              simp only [Act.put, List.setIfInBounds_toArray, List.set_cons_succ, List.set_cons_zero]
              refine gq_load (by kernel_rfl) (some 61) rfl 24 (.tmp 13) rfl ⟨g2, 0, none⟩ (.agg (itA Y)) (by kernel_rfl) (fun U hU => load_box hU.b2) ?_
              simp only [Act.put, List.setIfInBounds_toArray, List.set_cons_succ, List.set_cons_zero]
              refine gq_call (by kernel_rfl) (some 62) rfl 11 #[.agg (itA X), .agg (itA Y)] (.bool false) (fun U hU => by kernel_rfl) (fun U hU => HCP.out U hU) ?_
              simp only [Act.put, List.setIfInBounds_toArray, List.set_cons_succ, List.set_cons_zero]
              refine gq_val (by kernel_rfl) (some 63) rfl (.bool false) (fun U hU => by kernel_rfl) ?_
              simp only [Act.put, List.setIfInBounds_toArray, List.set_cons_succ, List.set_cons_zero]
              refine gq_load (by kernel_rfl) (some 64) rfl 24 (.tmp 13) rfl ⟨g2, 0, none⟩ (.agg (itA Y)) (by kernel_rfl) (fun U hU => load_box hU.b2) ?_
              simp only [Act.put, List.setIfInBounds_toArray, List.set_cons_succ, List.set_cons_zero]
              refine gq_load (by kernel_rfl) (some 65) rfl 24 (.tmp 12) rfl ⟨g1, 0, none⟩ (.agg (itA X)) (by kernel_rfl) (fun U hU => load_box hU.b1) ?_
              simp only [Act.put, List.setIfInBounds_toArray, List.set_cons_succ, List.set_cons_zero]
              refine gq_call (by kernel_rfl) (some 66) rfl 11 #[.agg (itA Y), .agg (itA X)] (.bool true) (fun U hU => by kernel_rfl) (fun U hU => HCQ.out U hU) ?_
              simp only [Act.put, List.setIfInBounds_toArray, List.set_cons_succ, List.set_cons_zero]
              refine gq_val (by kernel_rfl) (some 67) rfl (.bool true) (fun U hU => by kernel_rfl) ?_
              simp only [Act.put, List.setIfInBounds_toArray, List.set_cons_succ, List.set_cons_zero]
              refine gq_load (by kernel_rfl) (some 68) rfl 24 (.tmp 12) rfl ⟨g1, 0, none⟩ (.agg (itA X)) (by kernel_rfl) (fun U hU => load_box hU.b1) ?_
              simp only [Act.put, List.setIfInBounds_toArray, List.set_cons_succ, List.set_cons_zero]
              refine gq_load (by kernel_rfl) (some 69) rfl 24 (.tmp 13) rfl ⟨g2, 0, none⟩ (.agg (itA Y)) (by kernel_rfl) (fun U hU => load_box hU.b2) ?_
              simp only [Act.put, List.setIfInBounds_toArray, List.set_cons_succ, List.set_cons_zero]
              refine gq_val (by kernel_rfl) (some 70) rfl (.bool false) (fun U hU => by rw [show (false : Bool) = decide (X = Y) from HE.out.symm]; exact eq_it rfl X Y (by kernel_rfl) (by kernel_rfl) U) ?_
              simp only [Act.put, List.setIfInBounds_toArray, List.set_cons_succ, List.set_cons_zero]
              refine gq_val (by kernel_rfl) (some 71) rfl (.bool false) (fun U hU => eq_bool rfl true false (by kernel_rfl) (by kernel_rfl) U) ?_
              simp only [Act.put, List.setIfInBounds_toArray, List.set_cons_succ, List.set_cons_zero]
              refine gq_val (by kernel_rfl) (some 72) rfl (.bool false) (fun U hU => by kernel_rfl) ?_
              simp only [Act.put, List.setIfInBounds_toArray, List.set_cons_succ, List.set_cons_zero]
              refine gq_val (by kernel_rfl) (some 73) rfl (.bool false) (fun U hU => by kernel_rfl) ?_
              simp only [Act.put, List.setIfInBounds_toArray, List.set_cons_succ, List.set_cons_zero]
              refine gq_load (by kernel_rfl) (some 74) rfl 24 (.tmp 12) rfl ⟨g1, 0, none⟩ (.agg (itA X)) (by kernel_rfl) (fun U hU => load_box hU.b1) ?_
              simp only [Act.put, List.setIfInBounds_toArray, List.set_cons_succ, List.set_cons_zero]
              refine gq_load (by kernel_rfl) (some 75) rfl 24 (.tmp 13) rfl ⟨g2, 0, none⟩ (.agg (itA Y)) (by kernel_rfl) (fun U hU => load_box hU.b2) ?_
              simp only [Act.put, List.setIfInBounds_toArray, List.set_cons_succ, List.set_cons_zero]
              refine gq_call (by kernel_rfl) (some 76) rfl 11 #[.agg (itA X), .agg (itA Y)] (.bool false) (fun U hU => by kernel_rfl) (fun U hU => HCP.out U hU) ?_
              simp only [Act.put, List.setIfInBounds_toArray, List.set_cons_succ, List.set_cons_zero]
              refine gq_val (by kernel_rfl) (some 77) rfl (.bool false) (fun U hU => by kernel_rfl) ?_
              simp only [Act.put, List.setIfInBounds_toArray, List.set_cons_succ, List.set_cons_zero]
              with_reducible refine gq_not (by kernel_rfl) (some 78) rfl ?_
              simp only [Act.put, List.setIfInBounds_toArray, List.set_cons_succ, List.set_cons_zero]
              with_reducible refine gq_not (by kernel_rfl) (some 79) rfl ?_
              simp only [Act.put, List.setIfInBounds_toArray, List.set_cons_succ, List.set_cons_zero]
              with_reducible refine gq_not (by kernel_rfl) (some 80) rfl ?_
              simp only [Act.put, List.setIfInBounds_toArray, List.set_cons_succ, List.set_cons_zero]
              refine gq_val (by kernel_rfl) (some 81) rfl (.bool false) (fun U hU => by kernel_rfl) ?_
              simp only [Act.put, List.setIfInBounds_toArray, List.set_cons_succ, List.set_cons_zero]
              refine gq_val (by kernel_rfl) (some 82) rfl (.bool false) (fun U hU => by kernel_rfl) ?_
              simp only [Act.put, List.setIfInBounds_toArray, List.set_cons_succ, List.set_cons_zero]
              with_reducible refine gq_not (by kernel_rfl) (some 83) rfl ?_
              simp only [Act.put, List.setIfInBounds_toArray, List.set_cons_succ, List.set_cons_zero]
              with_reducible refine gq_not (by kernel_rfl) (some 84) rfl ?_
              simp only [Act.put, List.setIfInBounds_toArray, List.set_cons_succ, List.set_cons_zero]
              with_reducible refine gq_not (by kernel_rfl) (some 85) rfl ?_
              simp only [Act.put, List.setIfInBounds_toArray, List.set_cons_succ, List.set_cons_zero]
              with_reducible refine gq_not (by kernel_rfl) (some 86) rfl ?_
              simp only [Act.put, List.setIfInBounds_toArray, List.set_cons_succ, List.set_cons_zero]
              refine gq_val (by kernel_rfl) (some 87) rfl (.bool false) (fun U hU => by kernel_rfl) ?_
              simp only [Act.put, List.setIfInBounds_toArray, List.set_cons_succ, List.set_cons_zero]
              refine gq_val (by kernel_rfl) (some 88) rfl (.bool false) (fun U hU => by kernel_rfl) ?_
              simp only [Act.put, List.setIfInBounds_toArray, List.set_cons_succ, List.set_cons_zero]
              apply wpQuiet_nil
              intro V5 hV5
              have HV := Lib.hid (HB4.out.trans (hV5.bel.mono HB4.out.size))
              clear hV5 hB4 HCP HCQ HCR HCS HRB HE HB4
              go_upto_region 10 with fail
              apply wp_region_lit
              refine gw_val (by kernel_rfl) (some 89) rfl (.int .i64 (i + 1 : Nat)) (add_one rfl i (by omega) (by kernel_rfl) _) ?_
              simp only [Act.put, List.setIfInBounds_toArray, List.set_cons_succ, List.set_cons_zero]
              refine gw_val (by kernel_rfl) (some 33) rfl (.int .i64 (i + 1 : Nat)) (by kernel_rfl) ?_
              simp only [Act.put, List.setIfInBounds_toArray, List.set_cons_succ, List.set_cons_zero]
              apply wpList_nil
              go_wp2_with fail
              go_roundg (gk - 1)
              case measure => have := HG.out; omega
              case rel => exact ⟨i + 1, rfl, HG.out.2.2, HV.out, HG.out.1⟩
            · refine wp_region_class (C := fun U => B3 V4 g1 g2 g3 X Y Z U) (by kernel_rfl) (by kernel_rfl) (⟨hB4.bel.drew, hB4.b1, hB4.b2, hB4.b3⟩) ?_
              refine gq_load (by kernel_rfl) (some 42) rfl 24 (.tmp 12) rfl ⟨g1, 0, none⟩ (.agg (itA X)) (by kernel_rfl) (fun U hU => load_box hU.b1) ?_
              simp only [Act.put, List.setIfInBounds_toArray, List.set_cons_succ, List.set_cons_zero]
              refine gq_load (by kernel_rfl) (some 43) rfl 24 (.tmp 13) rfl ⟨g2, 0, none⟩ (.agg (itA Y)) (by kernel_rfl) (fun U hU => load_box hU.b2) ?_
              simp only [Act.put, List.setIfInBounds_toArray, List.set_cons_succ, List.set_cons_zero]
              refine gq_call (by kernel_rfl) (some 44) rfl 11 #[.agg (itA X), .agg (itA Y)] (.bool false) (fun U hU => by kernel_rfl) (fun U hU => HCP.out U hU) ?_
              simp only [Act.put, List.setIfInBounds_toArray, List.set_cons_succ, List.set_cons_zero]
              refine gq_load (by kernel_rfl) (some 45) rfl 24 (.tmp 12) rfl ⟨g1, 0, none⟩ (.agg (itA X)) (by kernel_rfl) (fun U hU => load_box hU.b1) ?_
              simp only [Act.put, List.setIfInBounds_toArray, List.set_cons_succ, List.set_cons_zero]
              refine gq_load (by kernel_rfl) (some 46) rfl 24 (.tmp 13) rfl ⟨g2, 0, none⟩ (.agg (itA Y)) (by kernel_rfl) (fun U hU => load_box hU.b2) ?_
              simp only [Act.put, List.setIfInBounds_toArray, List.set_cons_succ, List.set_cons_zero]
              refine gq_call (by kernel_rfl) (some 47) rfl 12 #[.agg (itA X), .agg (itA Y)] (.bool false) (fun U hU => by kernel_rfl) (fun U hU => HRB.out U hU) ?_
              simp only [Act.put, List.setIfInBounds_toArray, List.set_cons_succ, List.set_cons_zero]
              refine gq_val (by kernel_rfl) (some 48) rfl (.bool false) (fun U hU => neq_bool rfl false (by kernel_rfl) (by kernel_rfl) U) ?_
              simp only [Act.put, List.setIfInBounds_toArray, List.set_cons_succ, List.set_cons_zero]
              refine gq_val (by kernel_rfl) (some 49) rfl (.bool false) (fun U hU => by kernel_rfl) ?_
              simp only [Act.put, List.setIfInBounds_toArray, List.set_cons_succ, List.set_cons_zero]
              refine gq_load (by kernel_rfl) (some 50) rfl 24 (.tmp 12) rfl ⟨g1, 0, none⟩ (.agg (itA X)) (by kernel_rfl) (fun U hU => load_box hU.b1) ?_
              simp only [Act.put, List.setIfInBounds_toArray, List.set_cons_succ, List.set_cons_zero]
              refine gq_load (by kernel_rfl) (some 51) rfl 24 (.tmp 13) rfl ⟨g2, 0, none⟩ (.agg (itA Y)) (by kernel_rfl) (fun U hU => load_box hU.b2) ?_
              simp only [Act.put, List.setIfInBounds_toArray, List.set_cons_succ, List.set_cons_zero]
              refine gq_call (by kernel_rfl) (some 52) rfl 11 #[.agg (itA X), .agg (itA Y)] (.bool false) (fun U hU => by kernel_rfl) (fun U hU => HCP.out U hU) ?_
              simp only [Act.put, List.setIfInBounds_toArray, List.set_cons_succ, List.set_cons_zero]
              refine gq_val (by kernel_rfl) (some 53) rfl (.bool false) (fun U hU => by kernel_rfl) ?_
              simp only [Act.put, List.setIfInBounds_toArray, List.set_cons_succ, List.set_cons_zero]
              with_reducible refine gq_not (by kernel_rfl) (some 54) rfl ?_
              simp only [Act.put, List.setIfInBounds_toArray, List.set_cons_succ, List.set_cons_zero]
              with_reducible refine gq_not (by kernel_rfl) (some 55) rfl ?_
              simp only [Act.put, List.setIfInBounds_toArray, List.set_cons_succ, List.set_cons_zero]
              with_reducible refine gq_not (by kernel_rfl) (some 56) rfl ?_
              simp only [Act.put, List.setIfInBounds_toArray, List.set_cons_succ, List.set_cons_zero]
              refine gq_val (by kernel_rfl) (some 57) rfl (.bool false) (fun U hU => by kernel_rfl) ?_
              simp only [Act.put, List.setIfInBounds_toArray, List.set_cons_succ, List.set_cons_zero]
              refine gq_val (by kernel_rfl) (some 58) rfl (.bool false) (fun U hU => by kernel_rfl) ?_
              simp only [Act.put, List.setIfInBounds_toArray, List.set_cons_succ, List.set_cons_zero]
              refine gq_val (by kernel_rfl) (some 59) rfl (.bool false) (fun U hU => by kernel_rfl) ?_
              simp only [Act.put, List.setIfInBounds_toArray, List.set_cons_succ, List.set_cons_zero]
              refine gq_load (by kernel_rfl) (some 60) rfl 24 (.tmp 12) rfl ⟨g1, 0, none⟩ (.agg (itA X)) (by kernel_rfl) (fun U hU => load_box hU.b1) ?_
              simp only [Act.put, List.setIfInBounds_toArray, List.set_cons_succ, List.set_cons_zero]
              refine gq_load (by kernel_rfl) (some 61) rfl 24 (.tmp 13) rfl ⟨g2, 0, none⟩ (.agg (itA Y)) (by kernel_rfl) (fun U hU => load_box hU.b2) ?_
              simp only [Act.put, List.setIfInBounds_toArray, List.set_cons_succ, List.set_cons_zero]
              refine gq_call (by kernel_rfl) (some 62) rfl 11 #[.agg (itA X), .agg (itA Y)] (.bool false) (fun U hU => by kernel_rfl) (fun U hU => HCP.out U hU) ?_
              simp only [Act.put, List.setIfInBounds_toArray, List.set_cons_succ, List.set_cons_zero]
              refine gq_val (by kernel_rfl) (some 63) rfl (.bool false) (fun U hU => by kernel_rfl) ?_
              simp only [Act.put, List.setIfInBounds_toArray, List.set_cons_succ, List.set_cons_zero]
              refine gq_load (by kernel_rfl) (some 64) rfl 24 (.tmp 13) rfl ⟨g2, 0, none⟩ (.agg (itA Y)) (by kernel_rfl) (fun U hU => load_box hU.b2) ?_
              simp only [Act.put, List.setIfInBounds_toArray, List.set_cons_succ, List.set_cons_zero]
              refine gq_load (by kernel_rfl) (some 65) rfl 24 (.tmp 12) rfl ⟨g1, 0, none⟩ (.agg (itA X)) (by kernel_rfl) (fun U hU => load_box hU.b1) ?_
              simp only [Act.put, List.setIfInBounds_toArray, List.set_cons_succ, List.set_cons_zero]
              refine gq_call (by kernel_rfl) (some 66) rfl 11 #[.agg (itA Y), .agg (itA X)] (.bool false) (fun U hU => by kernel_rfl) (fun U hU => HCQ.out U hU) ?_
              simp only [Act.put, List.setIfInBounds_toArray, List.set_cons_succ, List.set_cons_zero]
              refine gq_val (by kernel_rfl) (some 67) rfl (.bool false) (fun U hU => by kernel_rfl) ?_
              simp only [Act.put, List.setIfInBounds_toArray, List.set_cons_succ, List.set_cons_zero]
              refine gq_load (by kernel_rfl) (some 68) rfl 24 (.tmp 12) rfl ⟨g1, 0, none⟩ (.agg (itA X)) (by kernel_rfl) (fun U hU => load_box hU.b1) ?_
              simp only [Act.put, List.setIfInBounds_toArray, List.set_cons_succ, List.set_cons_zero]
              refine gq_load (by kernel_rfl) (some 69) rfl 24 (.tmp 13) rfl ⟨g2, 0, none⟩ (.agg (itA Y)) (by kernel_rfl) (fun U hU => load_box hU.b2) ?_
              simp only [Act.put, List.setIfInBounds_toArray, List.set_cons_succ, List.set_cons_zero]
              refine gq_val (by kernel_rfl) (some 70) rfl (.bool true) (fun U hU => by rw [show (true : Bool) = decide (X = Y) from HE.out.symm]; exact eq_it rfl X Y (by kernel_rfl) (by kernel_rfl) U) ?_
              simp only [Act.put, List.setIfInBounds_toArray, List.set_cons_succ, List.set_cons_zero]
              refine gq_val (by kernel_rfl) (some 71) rfl (.bool false) (fun U hU => eq_bool rfl false true (by kernel_rfl) (by kernel_rfl) U) ?_
              simp only [Act.put, List.setIfInBounds_toArray, List.set_cons_succ, List.set_cons_zero]
              refine gq_val (by kernel_rfl) (some 72) rfl (.bool false) (fun U hU => by kernel_rfl) ?_
              simp only [Act.put, List.setIfInBounds_toArray, List.set_cons_succ, List.set_cons_zero]
              refine gq_val (by kernel_rfl) (some 73) rfl (.bool false) (fun U hU => by kernel_rfl) ?_
              simp only [Act.put, List.setIfInBounds_toArray, List.set_cons_succ, List.set_cons_zero]
              refine gq_load (by kernel_rfl) (some 74) rfl 24 (.tmp 12) rfl ⟨g1, 0, none⟩ (.agg (itA X)) (by kernel_rfl) (fun U hU => load_box hU.b1) ?_
              simp only [Act.put, List.setIfInBounds_toArray, List.set_cons_succ, List.set_cons_zero]
              refine gq_load (by kernel_rfl) (some 75) rfl 24 (.tmp 13) rfl ⟨g2, 0, none⟩ (.agg (itA Y)) (by kernel_rfl) (fun U hU => load_box hU.b2) ?_
              simp only [Act.put, List.setIfInBounds_toArray, List.set_cons_succ, List.set_cons_zero]
              refine gq_call (by kernel_rfl) (some 76) rfl 11 #[.agg (itA X), .agg (itA Y)] (.bool false) (fun U hU => by kernel_rfl) (fun U hU => HCP.out U hU) ?_
              simp only [Act.put, List.setIfInBounds_toArray, List.set_cons_succ, List.set_cons_zero]
              refine gq_val (by kernel_rfl) (some 77) rfl (.bool false) (fun U hU => by kernel_rfl) ?_
              simp only [Act.put, List.setIfInBounds_toArray, List.set_cons_succ, List.set_cons_zero]
              with_reducible refine gq_not (by kernel_rfl) (some 78) rfl ?_
              simp only [Act.put, List.setIfInBounds_toArray, List.set_cons_succ, List.set_cons_zero]
              with_reducible refine gq_not (by kernel_rfl) (some 79) rfl ?_
              simp only [Act.put, List.setIfInBounds_toArray, List.set_cons_succ, List.set_cons_zero]
              with_reducible refine gq_not (by kernel_rfl) (some 80) rfl ?_
              simp only [Act.put, List.setIfInBounds_toArray, List.set_cons_succ, List.set_cons_zero]
              refine gq_val (by kernel_rfl) (some 81) rfl (.bool false) (fun U hU => by kernel_rfl) ?_
              simp only [Act.put, List.setIfInBounds_toArray, List.set_cons_succ, List.set_cons_zero]
              refine gq_val (by kernel_rfl) (some 82) rfl (.bool false) (fun U hU => by kernel_rfl) ?_
              simp only [Act.put, List.setIfInBounds_toArray, List.set_cons_succ, List.set_cons_zero]
              with_reducible refine gq_not (by kernel_rfl) (some 83) rfl ?_
              simp only [Act.put, List.setIfInBounds_toArray, List.set_cons_succ, List.set_cons_zero]
              with_reducible refine gq_not (by kernel_rfl) (some 84) rfl ?_
              simp only [Act.put, List.setIfInBounds_toArray, List.set_cons_succ, List.set_cons_zero]
              with_reducible refine gq_not (by kernel_rfl) (some 85) rfl ?_
              simp only [Act.put, List.setIfInBounds_toArray, List.set_cons_succ, List.set_cons_zero]
              with_reducible refine gq_not (by kernel_rfl) (some 86) rfl ?_
              simp only [Act.put, List.setIfInBounds_toArray, List.set_cons_succ, List.set_cons_zero]
              refine gq_val (by kernel_rfl) (some 87) rfl (.bool false) (fun U hU => by kernel_rfl) ?_
              simp only [Act.put, List.setIfInBounds_toArray, List.set_cons_succ, List.set_cons_zero]
              refine gq_val (by kernel_rfl) (some 88) rfl (.bool false) (fun U hU => by kernel_rfl) ?_
              simp only [Act.put, List.setIfInBounds_toArray, List.set_cons_succ, List.set_cons_zero]
              apply wpQuiet_nil
              intro V5 hV5
              have HV := Lib.hid (HB4.out.trans (hV5.bel.mono HB4.out.size))
              clear hV5 hB4 HCP HCQ HCR HCS HRB HE HB4
              go_upto_region 10 with fail
              apply wp_region_lit
              refine gw_val (by kernel_rfl) (some 89) rfl (.int .i64 (i + 1 : Nat)) (add_one rfl i (by omega) (by kernel_rfl) _) ?_
              simp only [Act.put, List.setIfInBounds_toArray, List.set_cons_succ, List.set_cons_zero]
              refine gw_val (by kernel_rfl) (some 33) rfl (.int .i64 (i + 1 : Nat)) (by kernel_rfl) ?_
              simp only [Act.put, List.setIfInBounds_toArray, List.set_cons_succ, List.set_cons_zero]
              apply wpList_nil
              go_wp2_with fail
              go_roundg (gk - 1)
              case measure => have := HG.out; omega
              case rel => exact ⟨i + 1, rfl, HG.out.2.2, HV.out, HG.out.1⟩
        · have HD : Hid (decide (i < 2) = false) := Lib.hid (decide_eq_false hlt)
          have HBW := Lib.hid hB
          clear hB hg
          go_upto_region 5 with fail
          apply wp_region_lit
          refine gw_val (by kernel_rfl) (some 34) rfl (.bool false) (by rw [← HD.out]; exact lt_nat rfl i 2 (by kernel_rfl) (by kernel_rfl) _) ?_
          simp only [Act.put, List.setIfInBounds_toArray, List.set_cons_succ, List.set_cons_zero]
          apply wpList_nil
          go_upto_region 11 with fail
          apply wp_region_lit
          refine gw_call (by kernel_rfl) (some 90) rfl 8 #[] (.bool true) (fun w' => Below wr.heap.size wr w') (by kernel_rfl) (HK.out wr) (fun V6 hb6 => ?_)
          simp only [Act.put, List.setIfInBounds_toArray, List.set_cons_succ, List.set_cons_zero]
          refine gw_val (by kernel_rfl) (some 8) rfl (.bool true) (by kernel_rfl) ?_
          simp only [Act.put, List.setIfInBounds_toArray, List.set_cons_succ, List.set_cons_zero]
          apply wpList_nil
          have HE := Lib.hid (HBW.out.trans (hb6.mono HBW.out.size))
          clear hb6 HK HBF
          go_wp2_with fail
          go_ret
          exact ⟨rfl, HE.out⟩
end Go.Proofs.Ytepdibnbnhkpnaa
