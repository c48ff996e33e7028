/-
  Rows of accounts that are built step by step, written, copied within.
-/
import Derived.Test.YtglglhcnofbagaaJ15
namespace Go.Proofs.Ytglglhcnofbagaa.Lg
set_option maxRecDepth 100000
open Go.RowKit
set_option linter.unusedSimpArgs false
set_option linter.unusedVariables false

theorem acc_app (A B : List Ac) : acc (A ++ B) = acc A ++ acc B := by simp [acc]
theorem acc_cons (x : Ac) (A : List Ac) : acc (x :: A) = acl x ++ acc A := rfl
theorem acc_one (A : List Ac) : ∀ u ∈ acc A, u.oneCell' = true := fun u hu => by
 obtain ⟨x, -, hx⟩ := List.mem_flatMap.1 hu
 simp only [acl, List.mem_cons, List.not_mem_nil, or_false] at hx
 rcases hx with rfl | rfl | rfl <;> rfl
theorem acc_take : ∀ (A : List Ac) (k : Nat), (acc A).take (k * 3) = acc (A.take k)
 | [], k => by simp [acc]
 | x :: r, 0 => by simp [acc]
 | x :: r, k + 1 => by
  rw [acc_cons, show (k + 1) * 3 = k * 3 + 1 + 1 + 1 by omega, List.take_succ_cons, acc_cons, ← acc_take r k]
  rfl
theorem acc_drop : ∀ (A : List Ac) (k : Nat), (acc A).drop (k * 3) = acc (A.drop k)
 | [], k => by simp [acc]
 | x :: r, 0 => by simp
 | x :: r, k + 1 => by
  rw [List.drop_succ_cons, ← acc_drop r k, acc_cons, show (k + 1) * 3 = k * 3 + 1 + 1 + 1 by omega]
  rfl
theorem nil_ac (w : World) : (Instr.buildSlice 25 0 #[]).run Try.prog w = .ok (.slice (some ⟨w.heap.size, 0, none⟩) 0 0) (w.alloc (.cells #[] 24)) := build_nil Try.underlying25 infoAc w
theorem cut_ac_to (a : Option Addr) (n c k : Nat) (w : World) (h : k ≤ c) : (Instr.slice 25 (.slice a n c) none (some (.int .i64 (k : Int))) none).run Try.prog w = .ok (.slice a k c) w := cut_to (s := 3) (by kernel_rfl) (fun w => by kernel_rfl) a n c k w h
theorem cut_ac_from (a : Option Addr) (n c k : Nat) (w : World) (h : k ≤ n) : (Instr.slice 25 (.slice a n c) (some (.int .i64 (k : Int))) none none).run Try.prog w = .ok (.slice (fromS 3 a c k) (n - k) (c - k)) w := cut_from (s := 3) (by kernel_rfl) (fun w => by kernel_rfl) a n c k w h
theorem append_ac {w : World} {B n m : Nat} {v : Value} {xs : List Value} (hO : w.ownsRow B 24 3 v n xs) (pa : Option Addr) (cp : Nat) (L : List Ac) (hP : Cs w pa (acc L)) (hl : L.length = m) (hB : B ≤ w.heap.size) (hn : n ≤ 100000) (hm : m ≤ 100000) :
  ∃ v' w', (Builtin.append_ #[25, 25] 25 #[v, .slice pa m cp]).run Try.prog w = .ok v' w' ∧ w'.ownsRow B 24 3 v' (n + m) (xs ++ acc L) ∧ Below B w w' ∧ w.grownBy w' v.ownBlock :=
 append_cs (by kernel_rfl) infoAc (by kernel_rfl) (by omega) (by omega) hO pa cp _ hP (by rw [acc_len, hl]) (acc_one _) hB hn hm
def Row (V0 V : World) (x : Value) (L : List Ac) : Prop := V.ownsRow V0.heap.size 24 3 x L.length (acc L)
theorem Row.below {V0 V V2 : World} {x : Value} {L : List Ac} (h : Row V0 V x L) (hb : Below V.heap.size V V2) : Row V0 V2 x L := own_below h hb
/-- A row of keys is appended: where the new row lies. -/
theorem Row.app {V0 V : World} {x : Value} {L : List Ac} (h : Row V0 V x L) (hV : V0.heap.size ≤ V.heap.size) (pa : Option Addr) (m cp : Nat) (P : List Ac) (hP : Cs V pa (acc P)) (hm : P.length = m) (hl : L.length ≤ 100000) (hp : m ≤ 100000) :
  ∃ v V2, (Builtin.append_ #[25, 25] 25 #[x, .slice pa m cp]).run Try.prog V = .ok v V2 ∧ Row V0 V2 v (L ++ P) ∧ Below V0.heap.size V V2 ∧ V.grownBy V2 x.ownBlock ∧ (v.ownBlock = x.ownBlock ∨ v.ownBlock = some V.heap.size) := by
 subst hm
 have hlen : (L ++ P).length = L.length + P.length := List.length_append
 cases P with
 | nil =>
  obtain ⟨v', w', hr, hO, hb, hg⟩ := append_ac h pa cp [] hP rfl hV hl hp
  cases pa with
  | none =>
   have e : (Builtin.append_ #[25, 25] 25 #[x, .slice none 0 cp]).run Try.prog V = .ok x V := by
    obtain ⟨i0, hi, hz0, hz1, hz2⟩ := info_parts infoAc
    have hu : Try.prog.underlying 25 = some (.slice 24) := by kernel_rfl
    rcases h.2 with ⟨rfl, h0⟩ | ⟨g, cap, cur, rfl, _, _, hnc, _⟩
    ·simp [Builtin.append_, run_underlying hu, sizeOf, typeInfo, hi, Builtin.lenOf, Builtin.firstCells]
    ·simp [Builtin.append_, run_underlying hu, sizeOf, typeInfo, hi, Builtin.lenOf, Builtin.firstCells, hnc, storeCells]
   exact ⟨x, V, e, by rw [List.append_nil]; exact h, Below.refl _ _, World.grownBy.refl V _, .inl rfl⟩
  | some y =>
   obtain ⟨i0, hi, hz0, hz1, hz2⟩ := info_parts infoAc
   obtain ⟨v2, w2, hr2, hO2, hg2, -, hat2⟩ := run_append_own_at (P := Try.prog) V V0.heap.size 25 25 24 i0 _ 3 32 (by kernel_rfl) hi hz0 hz1 hz2 (by kernel_rfl) (by omega) x L.length (acc L) h y 0 cp [] (by simp) (fun j u h => by simp at h) (by simp) (by unfold maxLen; omega) (by omega) hV
   exact ⟨v2, w2, hr2, by unfold Row; rw [List.append_nil]; simpa using hO2, (Below.refl _ V).grown hg2 hV (fun j hj => (h.lt j hj).1), hg2, hat2⟩
 | cons p P =>
  obtain ⟨b, off, rfl, -, -⟩ := ac_range hP (k := 0) (by simp)
  obtain ⟨i0, hi, hz0, hz1, hz2⟩ := info_parts infoAc
  obtain ⟨v2, w2, hr2, hO2, hg2, -, hat2⟩ := run_append_own_at (P := Try.prog) V V0.heap.size 25 25 24 i0 _ 3 32 (by kernel_rfl) hi hz0 hz1 hz2 (by kernel_rfl) (by omega) x L.length (acc L) h ⟨b, off, none⟩ (p :: P).length cp (acc (p :: P)) (acc_len _) (fun j u hu => by
   obtain ⟨b2, off2, e2, -, hc⟩ := hP j u hu
   simp only [Option.some.injEq, Addr.mk.injEq, and_true] at e2
   obtain ⟨rfl, rfl⟩ := e2
   rw [Addr.add_mid]
   exact hc) (acc_one _) (by unfold maxLen; omega) (by omega) hV
  exact ⟨v2, w2, hr2, by unfold Row; rw [hlen, acc_app]; exact hO2, (Below.refl _ V).grown hg2 hV (fun j hj => (h.lt j hj).1), hg2, hat2⟩
/-- What a region keeps that builds a row of keys in up to three steps; and a slice of one key beside it. -/
structure CH (V0 : World) (k : Ac) (L1 L2 L3 : List Ac) (b0 b1 b2 b3 bk : Bool) (x0 x1 x2 x3 xk : Value) (V : World) : Prop where
 bel : Below V0.heap.size V0 V
 r0 : b0 = true → b1 = false → Row V0 V x0 []
 r1 : b1 = true → b2 = false → Row V0 V x1 L1
 r2 : b2 = true → b3 = false → Row V0 V x2 L2
 r3 : b3 = true → Row V0 V x3 L3
 c1 : b1 = true → b0 = true
 c2 : b2 = true → b1 = true
 c3 : b3 = true → b2 = true
 kx : bk = true → ∃ g, xk = .slice (some ⟨g, 0, none⟩) 1 1 ∧ Bx V g (acA k) 24 ∧ (b0 = true → b1 = false → x0.ownBlock ≠ some g) ∧ (b1 = true → b2 = false → x1.ownBlock ≠ some g) ∧ (b2 = true → b3 = false → x2.ownBlock ≠ some g)
section
variable {V0 V V2 : World} {k : Ac} {L1 L2 L3 : List Ac} {b0 b1 b2 b3 bk : Bool} {x0 x1 x2 x3 xk v : Value}
theorem Row.ne {x : Value} {L : List Ac} (h : Row V0 V x L) : x.ownBlock ≠ some V.heap.size := fun e => Nat.lt_irrefl _ (h.lt _ e).2
theorem CH.nil (h : CH V0 k L1 L2 L3 false false false false bk x0 x1 x2 x3 xk V) : CH V0 k L1 L2 L3 true false false false bk (.slice (some ⟨V.heap.size, 0, none⟩) 0 0) x1 x2 x3 xk (V.alloc (.cells #[] 24)) :=
 have hb : Below V.heap.size V (V.alloc (.cells #[] 24)) := (Below.refl _ V).alloc (Nat.le_refl _) _
 {bel := h.bel.trans (hb.mono h.bel.size), r0 := fun _ _ => own_base (own_nil V 24 3) h.bel.size, r1 := fun h1 => (by cases h1), r2 := fun h1 => (by cases h1), r3 := fun h1 => (by cases h1), c1 := fun h1 => (by cases h1), c2 := fun h1 => (by cases h1), c3 := fun h1 => (by cases h1)
  kx := fun hk => by
   obtain ⟨g, e, hx, -⟩ := h.kx hk
   exact ⟨g, e, hx.below hx.lt hb, fun _ _ e2 => by have := hx.lt; simp only [Value.ownBlock, Option.some.injEq] at e2; omega, fun h1 => (by cases h1), fun h1 => (by cases h1)⟩ }
theorem CH.key (h : CH V0 k L1 L2 L3 b0 b1 b2 b3 false x0 x1 x2 x3 xk V) : CH V0 k L1 L2 L3 b0 b1 b2 b3 true x0 x1 x2 x3 (.slice (some ⟨V.heap.size, 0, none⟩) 1 1) (V.alloc (.cells (acA k) 24)) :=
 have hb : Below V.heap.size V (V.alloc (.cells (acA k) 24)) := (Below.refl _ V).alloc (Nat.le_refl _) _
 {bel := h.bel.trans (hb.mono h.bel.size), r0 := fun h1 h2 => (h.r0 h1 h2).below hb, r1 := fun h1 h2 => (h.r1 h1 h2).below hb, r2 := fun h1 h2 => (h.r2 h1 h2).below hb, r3 := fun h1 => (h.r3 h1).below hb, c1 := h.c1, c2 := h.c2, c3 := h.c3
  kx := fun _ => ⟨V.heap.size, rfl, heap_alloc_last V _, fun h1 h2 => (h.r0 h1 h2).ne, fun h1 h2 => (h.r1 h1 h2).ne, fun h1 h2 => (h.r2 h1 h2).ne⟩ }
theorem kx_grown {g : Nat} {x y : Value} (hx : Bx V g (acA k) 24) (hn : x.ownBlock ≠ some g) (hg : V.grownBy V2 x.ownBlock) (hat : y.ownBlock = x.ownBlock ∨ y.ownBlock = some V.heap.size) : Bx V2 g (acA k) 24 ∧ y.ownBlock ≠ some g :=
 ⟨(hg.block g hx.lt (Ne.symm hn)).trans hx, fun e => hat.elim (fun h => hn (h.symm.trans e)) fun h => by
  have h2 := h.symm.trans e
  have := hx.lt
  simp only [Option.some.injEq] at h2
  omega⟩
theorem CH.one (h : CH V0 k L1 L2 L3 true false false false bk x0 x1 x2 x3 xk V) (hO : Row V0 V2 v L1) (hb : Below V0.heap.size V V2) (hg : V.grownBy V2 x0.ownBlock) (hat : v.ownBlock = x0.ownBlock ∨ v.ownBlock = some V.heap.size) : CH V0 k L1 L2 L3 true true false false bk x0 v x2 x3 xk V2 :=
 {bel := h.bel.trans hb, r0 := fun _ h1 => (by cases h1), r1 := fun _ _ => hO, r2 := fun h1 => (by cases h1), r3 := fun h1 => (by cases h1), c1 := fun _ => rfl, c2 := fun h1 => (by cases h1), c3 := fun h1 => (by cases h1)
  kx := fun hk => by
   obtain ⟨g, e, hx, h0, -⟩ := h.kx hk
   obtain ⟨h1, h2⟩ := kx_grown hx (h0 rfl rfl) hg hat
   exact ⟨g, e, h1, fun _ h3 => (by cases h3), fun _ _ => h2, fun h3 => (by cases h3)⟩ }
theorem CH.two (h : CH V0 k L1 L2 L3 b0 true false false bk x0 x1 x2 x3 xk V) (hO : Row V0 V2 v L2) (hb : Below V0.heap.size V V2) (hg : V.grownBy V2 x1.ownBlock) (hat : v.ownBlock = x1.ownBlock ∨ v.ownBlock = some V.heap.size) : CH V0 k L1 L2 L3 b0 true true false bk x0 x1 v x3 xk V2 :=
 {bel := h.bel.trans hb, r0 := fun _ h1 => (by cases h1), r1 := fun _ h1 => (by cases h1), r2 := fun _ _ => hO, r3 := fun h1 => (by cases h1), c1 := h.c1, c2 := fun _ => rfl, c3 := fun h1 => (by cases h1)
  kx := fun hk => by
   obtain ⟨g, e, hx, -, h0, -⟩ := h.kx hk
   obtain ⟨h1, h2⟩ := kx_grown hx (h0 rfl rfl) hg hat
   exact ⟨g, e, h1, fun _ h3 => (by cases h3), fun _ h3 => (by cases h3), fun _ _ => h2⟩ }
theorem CH.three (h : CH V0 k L1 L2 L3 b0 b1 true false bk x0 x1 x2 x3 xk V) (hO : Row V0 V2 v L3) (hb : Below V0.heap.size V V2) (hg : V.grownBy V2 x2.ownBlock) (hat : v.ownBlock = x2.ownBlock ∨ v.ownBlock = some V.heap.size) : CH V0 k L1 L2 L3 b0 b1 true true bk x0 x1 x2 v xk V2 :=
 have hb1 := h.c2 rfl
 {bel := h.bel.trans hb, r0 := fun _ h1 => (by rw [hb1] at h1; cases h1), r1 := fun _ h1 => (by cases h1), r2 := fun _ h1 => (by cases h1), r3 := fun _ => hO, c1 := h.c1, c2 := h.c2, c3 := fun _ => rfl
  kx := fun hk => by
   obtain ⟨g, e, hx, -, -, h0⟩ := h.kx hk
   obtain ⟨h1, h2⟩ := kx_grown hx (h0 rfl rfl) hg hat
   exact ⟨g, e, h1, fun _ h3 => (by rw [hb1] at h3; cases h3), fun _ h3 => (by cases h3), fun _ h3 => (by cases h3)⟩ }
theorem CH.start (V0 : World) (k : Ac) (L1 L2 L3 : List Ac) (x0 x1 x2 x3 xk : Value) : CH V0 k L1 L2 L3 false false false false false x0 x1 x2 x3 xk { V0 with drawn := V0.drawn + 1 } :=
 {bel := (Below.refl _ V0).drew, r0 := fun h1 => (by cases h1), r1 := fun h1 => (by cases h1), r2 := fun h1 => (by cases h1), r3 := fun h1 => (by cases h1), c1 := fun h1 => (by cases h1), c2 := fun h1 => (by cases h1), c3 := fun h1 => (by cases h1), kx := fun h1 => (by cases h1) }
end
/-- One cell of a row of the call's own is written. -/
theorem own_set {w : World} {B e s n c b : Nat} {xs : List Value} (h : w.ownsRow B e s (.slice (some ⟨b, 0, none⟩) n c) n xs) (j : Nat) (v : Value) (hj : j < xs.length) : (w.setCell ⟨b, j, none⟩ v).ownsRow B e s (.slice (some ⟨b, 0, none⟩) n c) n (xs.set j v) := by
 have hlen := h.1
 rcases h.2 with ⟨e0, -⟩ | ⟨g, cap, cur, e0, hb, hg, hn, hm, hc, ht⟩
 ·cases e0
 ·simp only [Value.slice.injEq, Option.some.injEq, Addr.mk.injEq, and_true, true_and] at e0
  obtain ⟨rfl, rfl⟩ := e0
  refine ⟨by simpa using hlen, .inr ⟨b, c, cur.setIfInBounds j v, rfl, hb, Joins.block_setCell hg v, hn, hm, by simpa using hc, ?_⟩⟩
  rw [Array.toList_setIfInBounds, List.take_set, ht]
theorem own_blk {w : World} {B e s n c b : Nat} {xs : List Value} (h : w.ownsRow B e s (.slice (some ⟨b, 0, none⟩) n c) n xs) : ∃ cur, Bx w b cur e ∧ n * s ≤ cur.size ∧ B ≤ b ∧ cur.toList.take (n * s) = xs := by
 rcases h.2 with ⟨e0, -⟩ | ⟨g, cap, cur, e0, hb, hg, hn, hm, hc, ht⟩
 ·cases e0
 ·simp only [Value.slice.injEq, Option.some.injEq, Addr.mk.injEq, and_true, true_and] at e0
  obtain ⟨rfl, rfl⟩ := e0
  exact ⟨cur, hg, by rw [hc]; exact Nat.mul_le_mul_right _ hn, hb, ht⟩
theorem own_sets {B e s n c b : Nat} : ∀ (vs : List Value) (o : Nat) (w : World) (xs : List Value), w.ownsRow B e s (.slice (some ⟨b, 0, none⟩) n c) n xs → o + vs.length ≤ xs.length → (w.setCells b o vs).ownsRow B e s (.slice (some ⟨b, 0, none⟩) n c) n (xs.take o ++ vs ++ xs.drop (o + vs.length))
 | [], o, w, xs, h, _ => by simpa [World.setCells] using h
 | v :: r, o, w, xs, h, hl => by
  rw [List.length_cons] at hl
  have h1 := own_sets r (o + 1) _ _ (own_set h o v (by omega)) (by rw [List.length_set]; omega)
  rw [World.setCells]
  have e : (xs.set o v).take (o + 1) ++ r ++ (xs.set o v).drop (o + 1 + r.length) = xs.take o ++ v :: r ++ xs.drop (o + (v :: r).length) := by
   rw [List.drop_set_of_lt (by omega), List.take_set, List.length_cons, show o + (r.length + 1) = o + 1 + r.length by omega]
   have ho : o < xs.length := by omega
   rw [List.take_add_one, List.getElem?_eq_getElem ho, Option.toList_some, List.set_append_right _ _ (by rw [List.length_take]; omega), List.length_take, Nat.min_eq_left (by omega), Nat.sub_self, List.set_cons_zero]
   simp
  rw [e] at h1
  exact h1
theorem below_sets {B b : Nat} (hB : B ≤ b) : ∀ (vs : List Value) (o : Nat) (w : World), Below B w (w.setCells b o vs)
 | [], o, w => Below.refl _ _
 | v :: r, o, w => ((Below.refl B w).setCell hB v).trans (below_sets hB r (o + 1) _)
theorem but_sets {b : Nat} : ∀ (vs : List Value) (o : Nat) (w : World), But b w (w.setCells b o vs)
 | [], o, w => But.refl _ _
 | v :: r, o, w => (But.setCell w o v).trans (but_sets r (o + 1) _)
/-- One element is written. -/
theorem set_ac {w : World} {B g n c i : Nat} {A : List Ac} (h : RowA w B (.slice (some ⟨g, 0, none⟩) n c) A) (hn : n = A.length) (hi : i < A.length) (x : Ac) :
  ∃ V2, (Instr.storeAt 24 (.pointer (some ⟨g, 0 + i * 3, none⟩)) (.agg (acA x))).run Try.prog w = .ok () V2 ∧ RowA V2 B (.slice (some ⟨g, 0, none⟩) n c) (A.set i x) ∧ Below B w V2 ∧ But g w V2 := by
 subst hn
 have hge : B ≤ g := by
  obtain ⟨g2, e, h1, -⟩ := own_at h (by omega)
  cases e
  exact h1
 have hst := run_storeAt_mid (P := Try.prog) w g (0 + i * 3) 24 (acA x) (fun k hk => by
  have hk4 : k < 3 := hk
  obtain ⟨cur, hcur, hz, -, -⟩ := own_blk h
  refine ⟨?_, frozen_of_row w g _ _ 24 hcur⟩
  rw [cell_of_row w g _ _ 24 (0, 0) hcur, Array.getElem?_eq_getElem (by omega)]
  rfl) (by kernel_rfl) (by simp [Value.oneCell'])
 have hb : Below B w (w.setCells g (0 + i * 3) (acA x).toList) := below_sets hge _ _ _
 have ho := own_sets (acA x).toList (0 + i * 3) w (acc A) h (by rw [acc_len]; show 0 + i * 3 + 3 ≤ _; omega)
 refine ⟨_, hst, ?_, hb, but_sets _ _ _⟩
 unfold RowA
 have e : (acc A).take (0 + i * 3) ++ (acA x).toList ++ (acc A).drop (0 + i * 3 + (acA x).toList.length) = acc (A.set i x) := by
  rw [Nat.zero_add, show i * 3 + (acA x).toList.length = (i + 1) * 3 by show i * 3 + 3 = _; omega, acc_take, acc_drop, List.set_eq_take_append_cons_drop, if_pos hi, acc_app, acc_cons]
  simp [acl]
 rw [e] at ho
 rw [List.length_set]
 exact ho
theorem acc_seg (A : List Ac) (i m : Nat) : ((acc A).drop (i * 3)).take (m * 3) = acc ((A.drop i).take m) := by rw [acc_drop, acc_take]
/-- 'copy' within a row of the call's own, one place up. -/
theorem copy_ac {w : World} {B g n c i : Nat} {A : List Ac} (h : RowA w B (.slice (some ⟨g, 0, none⟩) n c) A) (hn : n = A.length) (hi : i < n) (ty : TypeId) :
  ∃ q V2, (Builtin.copy_ #[25, 25] ty #[.slice (fromS 3 (some ⟨g, 0, none⟩) c (i + 1)) (n - (i + 1)) (c - (i + 1)), .slice (fromS 3 (some ⟨g, 0, none⟩) c i) (n - i) (c - i)]).run Try.prog w = .ok q V2 ∧ RowA V2 B (.slice (some ⟨g, 0, none⟩) n c) (A.take (i + 1) ++ (A.drop i).take (n - (i + 1))) ∧ Below B w V2 ∧ But g w V2 := by
 subst hn
 obtain ⟨g2, e, hge, -⟩ := own_at h (by omega)
 cases e
 obtain ⟨i0, hi0, hz0, hz1, hz2⟩ := info_parts infoAc
 obtain ⟨a2, c2, e2, hcs, hcc⟩ := h.cs
 simp only [Value.slice.injEq] at e2
 obtain ⟨rfl, -, rfl⟩ := e2
 have hmin : Nat.min (A.length - i) (A.length - (i + 1)) = A.length - (i + 1) := Nat.min_eq_right (by omega)
 have hlen : ((A.take (i + 1)) ++ (A.drop i).take (A.length - (i + 1))).length = A.length := by rw [List.length_append, List.length_take, List.length_take, List.length_drop]; omega
 by_cases hl : i + 1 = A.length
 ·refine ⟨goInt 0, w, ?_, ?_, Below.refl _ _, But.refl _ _⟩
  ·have hS : ∀ k, ∃ x, fromS 3 (some ⟨g, 0, none⟩) c k = some x := fun k => by
    unfold fromS
    split
    ·exact ⟨_, rfl⟩
    ·exact ⟨_, rfl⟩
   obtain ⟨x1, hx1⟩ := hS (i + 1)
   obtain ⟨x0, hx0⟩ := hS i
   have hfc := run_firstCells_some (P := Try.prog) w i0.size 0 x0 (A.length - i) (c - i) [] (by simp) (by simp)
   have hm0 : Nat.min (A.length - i) (A.length - (i + 1)) = 0 := by rw [hmin]; omega
   rw [hx1, hx0]
   simp [Builtin.copy_, run_underlying Try.underlying25, Builtin.lenOf, sizeOf, typeInfo, hi0, hm0, hfc, storeCells]
  ·rw [show A.length - (i + 1) = 0 by omega, List.take_zero, List.append_nil, List.take_of_length_le (by omega)]
   exact h
 ·have hf1 : fromS 3 (some ⟨g, 0, none⟩) c (i + 1) = some ⟨g, (i + 1) * 3, none⟩ := by
   unfold fromS
   rw [if_neg (by omega), Option.map_some, Addr.add_mid, Nat.zero_add]
  have hf0 : fromS 3 (some ⟨g, 0, none⟩) c i = some ⟨g, i * 3, none⟩ := by
   unfold fromS
   rw [if_neg (by omega), Option.map_some, Addr.add_mid, Nat.zero_add]
  have hfc := run_firstCells_some (P := Try.prog) w i0.size (A.length - (i + 1)) ⟨g, i * 3, none⟩ (A.length - i) (c - i) (acc ((A.drop i).take (A.length - (i + 1)))) (by rw [acc_len, hz1, List.length_take, List.length_drop]; congr 1; omega) (fun j v hj => by
   rw [← acc_seg] at hj
   have hj2 : j < (A.length - (i + 1)) * 3 := by
    have := (List.getElem?_eq_some_iff.1 hj).1
    rw [List.length_take] at this
    omega
   rw [List.getElem?_take, if_pos hj2, List.getElem?_drop] at hj
   obtain ⟨b, off, e3, -, hc3⟩ := hcs _ v hj
   cases e3
   rw [Addr.add_mid]
   rw [Nat.zero_add] at hc3
   exact hc3)
  have hsl : (acc ((A.drop i).take (A.length - (i + 1)))).length = (A.length - (i + 1)) * 3 := by rw [acc_len, List.length_take, List.length_drop]; congr 1; omega
  have hst := run_storeCells_cells (P := Try.prog) g ((i + 1) * 3) (acc ((A.drop i).take (A.length - (i + 1)))) 0 w (fun j hj => by
   obtain ⟨cur, hcur, hz, -, -⟩ := own_blk h
   rw [cell_of_row w g _ _ 24 (0, 0) hcur, Array.getElem?_eq_getElem (by rw [hsl] at hj; omega)]
   rfl) (fun j hj => by
   obtain ⟨cur, hcur, hz, -, -⟩ := own_blk h
   exact frozen_of_row w g _ _ 24 hcur) (acc_one _)
  have ho := own_sets (acc ((A.drop i).take (A.length - (i + 1)))) ((i + 1) * 3) w (acc A) h (by rw [hsl, acc_len]; omega)
  refine ⟨goInt (A.length - (i + 1) : Nat), w.setCells g ((i + 1) * 3 + 0) (acc ((A.drop i).take (A.length - (i + 1)))), ?_, ?_, below_sets hge _ _ _, but_sets _ _ _⟩
  ·rw [hf1, hf0]
   simp [Builtin.copy_, run_underlying Try.underlying25, Builtin.lenOf, sizeOf, typeInfo, hi0, hmin, hfc, hst]
  ·unfold RowA
   rw [hlen]
   have e5 : (acc A).take ((i + 1) * 3) ++ acc ((A.drop i).take (A.length - (i + 1))) ++ (acc A).drop ((i + 1) * 3 + (acc ((A.drop i).take (A.length - (i + 1)))).length) = acc (A.take (i + 1) ++ (A.drop i).take (A.length - (i + 1))) := by
    rw [hsl, show (acc A).drop ((i + 1) * 3 + (A.length - (i + 1)) * 3) = [] from List.drop_of_length_le (by rw [acc_len]; omega), List.append_nil, acc_take, acc_app]
   rw [e5] at ho
   exact ho
theorem ins_rot (L : List Ac) (x : Ac) (i : Nat) (hi : i ≤ L.length) : (((L ++ [x]).take (i + 1)) ++ ((L ++ [x]).drop i).take (L.length + 1 - (i + 1))).set i x = L.take i ++ x :: L.drop i := by
 apply List.ext_getElem?
 intro j
 have h1 : ((L ++ [x]).take (i + 1)).length = i + 1 := by rw [List.length_take, List.length_append]; simp; omega
 rw [List.getElem?_set]
 by_cases e : i = j
 ·subst e
  rw [if_pos rfl, if_pos (by rw [List.length_append, h1]; omega), List.getElem?_append_right (by rw [List.length_take]; omega), List.length_take, Nat.min_eq_left hi, Nat.sub_self]
  rfl
 rw [if_neg e]
 by_cases h2 : j < i
 ·rw [List.getElem?_append_left (by omega), List.getElem?_take, if_pos (by omega), List.getElem?_append_left (by omega), List.getElem?_append_left (by rw [List.length_take]; omega), List.getElem?_take, if_pos h2]
 ·obtain ⟨d, rfl⟩ : ∃ d, j = i + 1 + d := ⟨j - i - 1, by omega⟩
  rw [List.getElem?_append_right (by omega), h1, show i + 1 + d - (i + 1) = d by omega, List.getElem?_take, List.getElem?_append_right (by rw [List.length_take]; omega), List.length_take, Nat.min_eq_left hi, show i + 1 + d - i = d + 1 by omega, List.getElem?_cons_succ, List.getElem?_drop]
  by_cases h3 : d < L.length - i
  ·rw [if_pos (by omega), List.getElem?_drop, List.getElem?_append_left (by omega)]
  ·rw [if_neg (by omega), List.getElem?_eq_none (by rw [List.length_drop]; omega)]
theorem st_copy {P : Program} {ops : Array Oper} {o : Oper} {a : Act} {w : World} {Q : Exit → Act → World → Prop} {K : Act → World → Prop} {i : Nat} (hi : ops[i]? = some o) (hw : Region.wanted o (yielded ops a.tmps) = true) (d : Option Tmp) (hd : o.dst = d) (ty : TypeId) (hty : o.type = ty) (s x : Operand) (t : TypeId)
  (ho : o.op = .call { callee := .builtin .copy, args := #[s, x], argTypes := #[t, t] }) (v u v' : Value) (w' : World) (hs : a.eval s = v) (hx : a.eval x = u)
  (hr : (Builtin.copy_ #[t, t] ty #[v, u]).run P w = .ok v' w') (h : K (a.put d v') w') : wpOp P ops Q i K a w := by
 subst hd
 subst hty
 refine st_of hi hw ?_
 unfold Oper.wp execOp
 simp only [ho, resolve, invoke, builtin, Sem.run_bind, Sem.run_pure, Result.andThen_ok, List.map_toArray, List.map_cons, List.map_nil, hs, hx, hr]
 exact h
end Go.Proofs.Ytglglhcnofbagaa.Lg
