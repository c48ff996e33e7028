/-
  The walk of the statement on slots, over what the program's functions are held to.
-/
import Derived.Test.YtefinpapkjgpoaaLP
import Derived.Test.YtefinpapkjgpoaaPM
import Derived.Test.YtefinpapkjgpoaaLT
import Derived.Deep.CutBlock
namespace Go.Proofs.Ytefinpapkjgpoaa
open Go.RowKit
set_option linter.unusedSimpArgs false
set_option linter.unusedVariables false

/-- What the walk keeps in memory: the numbers, the program's list, the row of slots. -/
structure MW (R : Rep) (w : World) (a : Option Addr) (n c gs gl N : Nat) (S : Nat → Prop) (m : LM) (L : List Int) (av : Option Addr) (cv : Nat) (V : World) : Prop where
  bel : Below w.heap.size w V
  num : Bx V gs #[.slice a n c, .int .i64 N] 48
  r : R V gl S m
  so : ∀ k, S k → w.heap.size ≤ k ∧ k ≠ gs
  row : V.ownsRow w.heap.size 3 1 (.slice av L.length cv) L.length (icells L)
  ro : ∀ x, av = some x → x.block ≠ gs ∧ ¬ S x.block
  gsw : w.heap.size ≤ gs
section
variable {R : Rep} {w V V2 : World} {a : Option Addr} {n c gs gl N : Nat} {S : Nat → Prop} {m : LM} {L : List Int} {av : Option Addr} {cv : Nat}
theorem MW.below (hC : ListC R 23 25 27 28 29 18 15 17 20 22 12 14) (h : MW R w a n c gs gl N S m L av cv V) (hb : Below V.heap.size V V2) : MW R w a n c gs gl N S m L av cv V2 :=
  { h with bel := h.bel.trans (hb.mono h.bel.size), num := h.num.below h.num.lt hb, r := hC.keep h.r hb.size fun k hk => hb.block k (hC.inn h.r k hk), row := own_below h.row hb }
theorem MW.num' (hC : ListC R 23 25 27 28 29 18 15 17 20 22 12 14) (h : MW R w a n c gs gl N S m L av cv V) (hb : But gs V V2) (hx : Bx V2 gs #[.slice a n c, .int .i64 (N + 1 : Nat)] 48) : MW R w a n c gs gl (N + 1) S m L av cv V2 :=
  { h with bel := h.bel.trans (hb.1.mono h.gsw), num := hx, r := hC.keep h.r hb.1.size fun k hk => hb.2 k (hC.inn h.r k hk) (h.so k hk).2,
           row := own_same h.row fun x hx => hb.2 x.block (h.row.lt x.block (by rw [hx]; rfl)).2 (h.ro x hx).1 }
theorem MW.prog {m2 : LM} (hC : ListC R 23 25 27 28 29 18 15 17 20 22 12 14) (h : MW R w a n c gs gl N S m L av cv V) (hu : Upd R gl w.heap.size S m2 V V2) : ∃ S2, MW R w a n c gs gl N S2 m2 L av cv V2 := by
  obtain ⟨S2, hr, hs, hb⟩ := hu
  have hg := h.num.lt
  refine ⟨S2, { bel := h.bel.trans hb.1, num := h.num.buts hb fun e => (h.so _ e).2 rfl, r := hr, so := fun k hk => ?_, row := ?_, ro := fun x hx => ⟨(h.ro x hx).1, fun h2 => ?_⟩, gsw := h.gsw }⟩
  · have := h.bel.size
    rcases hs k hk with h1 | h1
    · exact h.so k h1
    · exact ⟨by omega, by omega⟩
  · exact own_same h.row fun x hx => hb.2 x.block (h.row.lt x.block (by rw [hx]; rfl)).2 (h.ro x hx).2
  · rcases hs _ h2 with h1 | h1
    · exact (h.ro x hx).2 h1
    · have := (h.row.lt x.block (by rw [hx]; rfl)).2
      omega
/-- A row in new blocks takes the old one's place. -/
theorem MW.fresh {L2 : List Int} {av2 : Option Addr} {cv2 : Nat} {V0 : World} (hC : ListC R 23 25 27 28 29 18 15 17 20 22 12 14) (h : MW R w a n c gs gl N S m L av cv V0) (hb : Below V0.heap.size V0 V) (hr : V.ownsRow V0.heap.size 3 1 (.slice av2 L2.length cv2) L2.length (icells L2)) : MW R w a n c gs gl N S m L2 av2 cv2 V :=
  have h2 := h.below hC hb
  { h2 with row := own_base hr h.bel.size
            ro := fun x hx => by
              have h1 := (hr.lt x.block (by rw [hx]; rfl)).1
              have h3 := h.num.lt
              exact ⟨by omega, fun hs => by have := hC.inn h.r _ hs; omega⟩ }
/-- One slot more in the row. -/
theorem MW.app (hC : ListC R 23 25 27 28 29 18 15 17 20 22 12 14) (h : MW R w a n c gs gl N S m L av cv V) (x : Int) (hl : L.length ≤ 1000) : ∃ av2 cv2 V2, (Builtin.append_ #[22, 22] 22 #[.slice av L.length cv, .slice (some ⟨V.heap.size, 0, none⟩) 1 1]).run Try.prog (V.alloc (.cells #[.int .i64 x] 3)) = .ok (.slice av2 (L ++ [x]).length cv2) V2 ∧ MW R w a n c gs gl N S m (L ++ [x]) av2 cv2 V2 := by
  obtain ⟨i0, hi, hz0, hz1, hz2⟩ := info_parts infoI
  have hb1 : Below V.heap.size V (V.alloc (.cells #[.int .i64 x] 3)) := (Below.refl _ V).alloc (Nat.le_refl _) _
  have h1 := h.below hC hb1
  have hC3 : Cs (V.alloc (.cells #[.int .i64 x] 3)) (some ⟨V.heap.size, 0, none⟩) (icells [x]) := Cs.block (t := 3) (fr := (0, 0)) (heap_alloc_last V _)
  have hsz : (V.alloc (.cells #[.int .i64 x] 3)).heap.size = V.heap.size + 1 := by simp
  have hVw := h.bel.size
  obtain ⟨v', w', hr, hO, hg, -, hat⟩ := run_append_own_at (P := Try.prog) (V.alloc (.cells #[.int .i64 x] 3)) w.heap.size 22 22 3 i0 _ 1 8 Try.underlying22 hi hz0 hz1 hz2 rfl (by omega)
    (.slice av L.length cv) L.length (icells L) h1.row ⟨V.heap.size, 0, none⟩ 1 1 (icells [x]) rfl (fun j u hu => by
      obtain ⟨b2, off2, e2, -, hc⟩ := hC3 j u hu
      simp only [Option.some.injEq, Addr.mk.injEq, and_true] at e2
      obtain ⟨rfl, rfl⟩ := e2
      rw [Addr.add_mid]
      exact hc) (icells_one _) (by unfold maxLen; omega) (by omega) (by omega)
  generalize V.alloc (.cells #[.int .i64 x] 3) = V1 at *
  obtain ⟨av2, cv2, rfl, -, -⟩ := own_cs hO
  have hlen : (L ++ [x]).length = L.length + 1 := by simp
  rw [← icells_app] at hO
  rw [← hlen] at hO hr
  have hrow : ∀ k, k < V1.heap.size → (∀ y, av = some y → y.block ≠ k) → w'.heap[k]? = V1.heap[k]? := fun k hk hn => hg.block k hk (by
    cases av with
    | none => simp [Value.ownBlock]
    | some y => simp only [Value.ownBlock, ne_eq, Option.some.injEq]; exact fun e => hn y rfl e.symm)
  have hgs := h1.num.lt
  refine ⟨av2, cv2, w', hr, { bel := h1.bel.trans ⟨hg.os, hg.tape, hg.output, by have := hg.size; have := h1.bel.size; omega, fun k hk => hrow k (by omega) fun y hy => ?_⟩, num := (hrow gs hgs fun y hy => (h.ro y hy).1).trans h1.num, r := hC.keep h1.r hg.size fun k hk => hrow k (hC.inn h1.r k hk) fun y hy e => (h.ro y hy).2 (by rw [e]; exact hk), so := h.so, row := hO, ro := fun y hy => ?_, gsw := h.gsw }⟩
  · have := (h.row.lt y.block (by rw [hy]; rfl)).1
    omega
  · have e1 : Value.ownBlock (.slice av2 (L.length + 1) cv2) = some y.block := by rw [hy]; rfl
    rcases hat with e | e
    · rw [e1] at e
      cases av with
      | none => cases e
      | some z =>
        have e2 : y.block = z.block := by simpa [Value.ownBlock] using e
        rw [e2]
        exact h.ro z rfl
    · rw [e1] at e
      simp only [Option.some.injEq] at e
      have h2 := hgs
      exact ⟨by have := h.num.lt; omega, fun hs => by have := hC.inn h.r _ hs; omega⟩
end
/-- What the region keeps that takes a slot out of the row. -/
structure SF (V0 : World) (L : List Int) (i : Nat) (b0 b1 b3 b4 b5 b8 b9 b10 : Bool) (x63 x67 x72 : Value) (V : World) : Prop where
  bel : Below V0.heap.size V0 V
  f63 : b0 = true → b4 = false → V.ownsRow V0.heap.size 3 1 x63 0 (icells [])
  f67 : b4 = true → b9 = false → V.ownsRow V0.heap.size 3 1 x67 i (icells (L.take i))
  f72 : b9 = true → V.ownsRow V0.heap.size 3 1 x72 (L.take i ++ L.drop (i + 1)).length (icells (L.take i ++ L.drop (i + 1)))
  c0 : b4 = true → b0 = true
  c1 : b3 = true → b1 = true
  c3 : b4 = true → b3 = true
  c4 : b9 = true → b4 = true
  c5 : b8 = true → b5 = true
  c8 : b9 = true → b8 = true
  c10 : b10 = true → b9 = true
section
variable {V0 V V2 : World} {L : List Int} {i : Nat} {b0 b1 b3 b4 b5 b8 b9 b10 : Bool} {x63 x67 x72 v : Value}
theorem SF.made (h : SF V0 L i false b1 b3 false b5 b8 b9 b10 x63 x67 x72 V) : SF V0 L i true b1 b3 false b5 b8 b9 b10 (.slice (some ⟨V.heap.size, 0, none⟩) 0 0) x67 x72 (V.alloc (.cells #[] 3)) :=
  have hb : Below V.heap.size V (V.alloc (.cells #[] 3)) := (Below.refl _ V).alloc (Nat.le_refl _) _
  { bel := h.bel.trans (hb.mono h.bel.size), f63 := fun _ _ => own_base (own_nil V 3 1) h.bel.size, f67 := fun h1 _ => (by cases h1), f72 := fun h1 => (by have := h.c4 h1; cases this), c0 := fun _ => rfl, c1 := h.c1, c3 := h.c3, c4 := h.c4, c5 := h.c5, c8 := h.c8, c10 := h.c10 }
theorem SF.one (h : SF V0 L i true b1 true false b5 b8 false b10 x63 x67 x72 V) (hO : V2.ownsRow V0.heap.size 3 1 v i (icells (L.take i))) (hb : Below V0.heap.size V V2) : SF V0 L i true b1 true true b5 b8 false b10 x63 v x72 V2 :=
  { bel := h.bel.trans hb, f63 := fun _ h1 => (by cases h1), f67 := fun _ _ => hO, f72 := fun h1 => (by cases h1), c0 := fun _ => rfl, c1 := h.c1, c3 := fun _ => rfl, c4 := fun h1 => (by cases h1), c5 := h.c5, c8 := h.c8, c10 := h.c10 }
theorem SF.two (h : SF V0 L i b0 b1 b3 true b5 true false false x63 x67 x72 V) (hO : V2.ownsRow V0.heap.size 3 1 v (L.take i ++ L.drop (i + 1)).length (icells (L.take i ++ L.drop (i + 1)))) (hb : Below V0.heap.size V V2) : SF V0 L i b0 b1 b3 true b5 true true false x63 x67 v V2 :=
  { bel := h.bel.trans hb, f63 := fun _ h1 => (by cases h1), f67 := fun _ h1 => (by cases h1), f72 := fun _ => hO, c0 := h.c0, c1 := h.c1, c3 := h.c3, c4 := fun _ => rfl, c5 := h.c5, c8 := fun _ => rfl, c10 := fun h1 => (by cases h1) }
end
theorem cut_int_from (a : Option Addr) (n c k : Nat) (w : World) (h : k ≤ n) : (Instr.slice 22 (.slice a n c) (some (.int .i64 (k : Int))) none none).run Try.prog w = .ok (.slice (fromS 1 a c k) (n - k) (c - k)) w := cut_from (s := 1) (by kernel_rfl) (fun w => by kernel_rfl) a n c k w h
theorem SL.most {m : LM} {kept : Int} {L : List Int} {k k2 : Nat} (h : SL m kept L k) (hk : k ≤ k2) : SL m kept L k2 := { h with um := Nat.le_trans h.um hk }
theorem max_nat {ρ : Operand → Value} {o : Oper} {x y : Operand} (ho : o.op = .call { callee := .builtin .max, args := #[x, y], argTypes := #[3, 3] }) (a b : Nat) (hx : ρ x = .int .i64 a) (hy : ρ y = .int .i64 b) (w : World) : (execOp ρ o).run Try.prog w = .ok (.value (.int .i64 (max a b : Nat))) w := by
  unfold execOp
  simp only [ho, hx, hy, resolve, invoke, builtin, Sem.run_bind, Sem.run_pure, Result.andThen_ok, List.map_toArray, List.map_cons, List.map_nil]
  simp [go_sem]
  by_cases hab : a < b
  · rw [if_pos hab, Nat.max_eq_right (by omega)]
  · rw [if_neg hab, Nat.max_eq_left (by omega)]
set_option maxRecDepth 100000 in
set_option maxHeartbeats 8000000 in
theorem slots_core {R : Rep} (hC : ListC R 23 25 27 28 29 18 15 17 20 22 12 14) (a : Option Addr) (c : Nat) (L0 : List Int) (w : World) (hL : Cs w a (icells L0)) (hl : L0.length ≤ 9223372036854775807) :
    Calls Try.prog 6 #[.slice a L0.length c] w fun e w' => e = .returned (.bool true) ∧ Below w.heap.size w w' := by
  have hb1 : Below w.heap.size w (w.alloc (.cells #[.slice a L0.length c] 22)) := (Below.refl _ w).alloc (Nat.le_refl _) _
  have hX1 : Bx (w.alloc (.cells #[.slice a L0.length c] 22)) w.heap.size #[.slice a L0.length c] 22 := heap_alloc_last w _
  have CLn := long_one w.heap.size a L0.length c _ hX1 hl
  have CK := fun V => known_true hC V
  have HL := Lib.hid hL
  obtain ⟨n, hn⟩ : ∃ n, L0.length = n := ⟨_, rfl⟩
  by_cases hm : 160 < L0.length
  · have hd : decide ((160 : Int) < (L0.length : Int)) = true := decide_eq_true (by omega)
    rw [hd] at CLn
    rw [hn] at hb1 CLn ⊢
    clear hX1 hL hd HL
    go_enter Try.func6, Try.ntmps6
    go_upto_region 1 with fail
    apply wp_region_lit
    refine gw_val (by kernel_rfl) (some 14) rfl (.slice a n c) (by kernel_rfl) ?_
    simp only [Act.put, List.setIfInBounds_toArray, List.set_cons_succ, List.set_cons_zero]
    refine gw_build (by kernel_rfl) (some 15) rfl 51 1 #[(0, .tmp 14)] rfl #[(0, .slice a n c)] (by kernel_rfl) (.slice (some ⟨w.heap.size, 0, none⟩) 1 1) _ (one_row a n c w) ?_
    simp only [Act.put, List.setIfInBounds_toArray, List.set_cons_succ, List.set_cons_zero]
    generalize w.alloc (.cells #[.slice a n c] 22) = W1 at *
    refine gw_call (by kernel_rfl) (some 16) rfl 8 #[.slice (some ⟨w.heap.size, 0, none⟩) 1 1] (.bool true) (fun w' => W1 = w') (by kernel_rfl) CLn (fun W2 hW => ?_)
    subst hW
    simp only [Act.put, List.setIfInBounds_toArray, List.set_cons_succ, List.set_cons_zero]
    apply wpList_nil
    clear CLn hl hm hn
    go_upto_region 2 with fail
    have CK1 := CK W1
    apply wp_region_lit
    refine gw_call (by kernel_rfl) (some 17) rfl 9 #[] (.bool true) (fun w' => Below W1.heap.size W1 w') (by kernel_rfl) CK1 (fun W2 hW => ?_)
    simp only [Act.put, List.setIfInBounds_toArray, List.set_cons_succ, List.set_cons_zero]
    refine gw_val (by kernel_rfl) (some 2) rfl (.bool true) (by kernel_rfl) ?_
    simp only [Act.put, List.setIfInBounds_toArray, List.set_cons_succ, List.set_cons_zero]
    apply wpList_nil
    have HB := Lib.hid (hb1.trans (hW.mono hb1.size))
    clear hb1 hW CK CK1
    go_wp2_with fail
    go_ret
    exact ⟨rfl, HB.out⟩
  · have hd : decide ((160 : Int) < (L0.length : Int)) = false := decide_eq_false (by omega)
    rw [hd] at CLn
    have hn160 : L0.length ≤ 160 := by omega
    have CX := fun (gs N : Nat) (k : Int) (V : World) (hX : Bx V gs #[.slice a L0.length c, .int .i64 N] 48) (hb : Below w.heap.size w V) (hN : N ≤ 100000) (h0 : 0 < k) (h1 : k ≤ 1000000) => mk_next gs L0 a c N k V hX (HL.out.below hb) (by omega) hN h0 h1
    have CF := mk_from a L0.length c
    rw [hn] at hb1 CLn CX CF hn160 ⊢
    have hws1 : w.heap.size ≤ (w.alloc (.cells #[.slice a n c] 22)).heap.size := hb1.size
    clear hX1 hL hd HL
    go_enter Try.func6, Try.ntmps6
    go_upto_region 1 with fail
    apply wp_region_lit
    refine gw_val (by kernel_rfl) (some 14) rfl (.slice a n c) (by kernel_rfl) ?_
    simp only [Act.put, List.setIfInBounds_toArray, List.set_cons_succ, List.set_cons_zero]
    refine gw_build (by kernel_rfl) (some 15) rfl 51 1 #[(0, .tmp 14)] rfl #[(0, .slice a n c)] (by kernel_rfl) (.slice (some ⟨w.heap.size, 0, none⟩) 1 1) _ (one_row a n c w) ?_
    simp only [Act.put, List.setIfInBounds_toArray, List.set_cons_succ, List.set_cons_zero]
    generalize w.alloc (.cells #[.slice a n c] 22) = W1 at *
    refine gw_call (by kernel_rfl) (some 16) rfl 8 #[.slice (some ⟨w.heap.size, 0, none⟩) 1 1] (.bool false) (fun w' => W1 = w') (by kernel_rfl) CLn (fun W2 hW => ?_)
    subst hW
    simp only [Act.put, List.setIfInBounds_toArray, List.set_cons_succ, List.set_cons_zero]
    apply wpList_nil
    clear CLn hl hm
    go_upto_region 3 with fail
    apply wp_region_lit
    refine gw_callE (by kernel_rfl) (some 18) rfl 23 #[] (fun v w' => ∃ g S, v = .pointer (some ⟨g, 0, none⟩) ∧ R w' g S LM.empty ∧ (∀ k, S k → W1.heap.size ≤ k) ∧ Below W1.heap.size W1 w') (by kernel_rfl) ((hC.new W1).mono fun e w' h => by obtain ⟨g, S, he, h⟩ := h; exact ⟨_, he, g, S, rfl, h⟩) (fun v W2 hq => ?_)
    obtain ⟨gl, S0, rfl, hr2, hs2, hb2⟩ := hq
    simp only [Act.put, List.setIfInBounds_toArray, List.set_cons_succ, List.set_cons_zero]
    refine gw_val (by kernel_rfl) (some 3) rfl (.pointer (some ⟨gl, 0, none⟩)) (by kernel_rfl) ?_
    simp only [Act.put, List.setIfInBounds_toArray, List.set_cons_succ, List.set_cons_zero]
    apply wpList_nil
    go_upto_region 4 with fail
    apply wp_region_lit
    refine gw_val (by kernel_rfl) (some 19) rfl (.pointer (some ⟨gl, 0, none⟩)) (by kernel_rfl) ?_
    simp only [Act.put, List.setIfInBounds_toArray, List.set_cons_succ, List.set_cons_zero]
    refine gw_val (by kernel_rfl) (some 20) rfl (.bool false) (by kernel_rfl) ?_
    simp only [Act.put, List.setIfInBounds_toArray, List.set_cons_succ, List.set_cons_zero]
    apply wpList_nil
    go_upto_region 6 with fail
    apply wp_region_lit
    refine gw_val (by kernel_rfl) (some 21) rfl (.slice a n c) (by kernel_rfl) ?_
    simp only [Act.put, List.setIfInBounds_toArray, List.set_cons_succ, List.set_cons_zero]
    refine gw_call (by kernel_rfl) (some 22) rfl 24 #[.slice a n c] (.pointer (some ⟨W2.heap.size, 0, none⟩)) (fun w' => w' = W2.alloc (.cells #[.slice a n c, .int .i64 0] 48)) (by kernel_rfl) (CF W2) (fun W3 hW3 => ?_)
    simp only [Act.put, List.setIfInBounds_toArray, List.set_cons_succ, List.set_cons_zero]
    refine gw_val (by kernel_rfl) (some 4) rfl (.pointer (some ⟨W2.heap.size, 0, none⟩)) (by kernel_rfl) ?_
    simp only [Act.put, List.setIfInBounds_toArray, List.set_cons_succ, List.set_cons_zero]
    apply wpList_nil
    have hb3 : Below W2.heap.size W2 W3 := by rw [hW3]; exact (Below.refl _ W2).alloc (Nat.le_refl _) _
    have hX3 : Bx W3 W2.heap.size #[.slice a n c, .int .i64 (0 : Nat)] 48 := by rw [hW3]; exact heap_alloc_last W2 _
    have hM3 : MW R w a n c W2.heap.size gl 0 S0 LM.empty [] none 0 W3 :=
      { bel := (hb1.trans (hb2.mono hb1.size)).trans (hb3.mono (Nat.le_trans hb1.size hb2.size)), num := hX3, r := hC.keep hr2 hb3.size fun k hk => hb3.block k (hC.inn hr2 k hk)
        so := fun k hk => ⟨Nat.le_trans hb1.size (hs2 k hk), by have := hC.inn hr2 k hk; omega⟩
        row := World.ownsRow_nil _ _ _ _, ro := fun x hx => (by cases hx), gsw := Nat.le_trans hb1.size hb2.size }
    clear hb1 hb2 hb3 hX3 hW3 hr2 hs2 CF hws1
    generalize W2.heap.size = gs at *
    have CP := hC.pushB W3 gl S0 LM.empty 1000 w.heap.size hM3.r Wm.empty (Ok.empty 900) ⟨by omega, by omega⟩ (fun k hk => (hM3.so k hk).1) hM3.bel.size
    have hsl := SL.start
    have hok : Ok (pushB LM.empty 1000).1 1 := (Ok.empty 0).pushB 1000
    have hk64 : I64 (pushB LM.empty 1000).2 := ⟨by simp [pushB, takeM, LM.empty], by simp [pushB, takeM, LM.empty]⟩
    generalize (pushB LM.empty 1000).2 = kept at *
    generalize (pushB LM.empty 1000).1 = m1 at *
    go_upto_region 7 with fail
    apply wp_region_lit
    refine gw_val (by kernel_rfl) (some 23) rfl (.pointer (some ⟨gl, 0, none⟩)) (by kernel_rfl) ?_
    simp only [Act.put, List.setIfInBounds_toArray, List.set_cons_succ, List.set_cons_zero]
    refine gw_call (by kernel_rfl) (some 24) rfl 25 #[.pointer (some ⟨gl, 0, none⟩), .int .i64 1000] (.int .i64 kept) (fun w' => Upd R gl w.heap.size S0 m1 W3 w') (by kernel_rfl) CP (fun W4 hu => ?_)
    simp only [Act.put, List.setIfInBounds_toArray, List.set_cons_succ, List.set_cons_zero]
    refine gw_val (by kernel_rfl) (some 5) rfl (.int .i64 kept) (by kernel_rfl) ?_
    simp only [Act.put, List.setIfInBounds_toArray, List.set_cons_succ, List.set_cons_zero]
    apply wpList_nil
    obtain ⟨S4, h4⟩ := hM3.prog hC hu
    clear hM3 hu CP
    go_upto_region 8 with fail
    apply wp_region_lit
    refine gw_val (by kernel_rfl) (some 6) rfl (.slice none 0 0) (by kernel_rfl) ?_
    simp only [Act.put, List.setIfInBounds_toArray, List.set_cons_succ, List.set_cons_zero]
    apply wpList_nil
    go_upto_region 9 with fail
    apply wp_region_lit
    refine gw_val (by kernel_rfl) (some 7) rfl (.int .i64 1) (by kernel_rfl) ?_
    simp only [Act.put, List.setIfInBounds_toArray, List.set_cons_succ, List.set_cons_zero]
    apply wpList_nil
    go_wp2_with fail
    go_loopg [6, 7] n (fun gg s6 s7 wx => ∃ N S m L av cv most, s6 = .slice av (List.length L) cv ∧ s7 = .int .i64 (most : Nat) ∧ MW R w a n c gs gl N S m L av cv wx ∧ SL m kept L most ∧ Ok m (N + 1) ∧ most ≤ N + 1 ∧ N ≤ n + 1 ∧ n - N = gg)
    case atStart => exact ⟨0, S4, m1, [], none, 0, 1, rfl, rfl, h4, hsl, hok, by omega, by omega, by omega⟩
    case round =>
      obtain ⟨N, S, m, L, av, cv, most, rfl, rfl, hM, hS, hO, hmo, hN, hg⟩ := hrel
      clear h4 hsl hok
      by_cases hlt : N < n
      · have hd : decide (N < n) = true := decide_eq_true hlt
        have hN9 : N + 2 ≤ 162 := by omega
        have HG : Hid (n - (N + 1) < gk ∧ n - (N + 2) < gk ∧ N + 2 ≤ n + 1) := Lib.hid ⟨by omega, by omega, by omega⟩
        clear hg
        go_upto_region 10 with fail
        apply wp_region_lit
        refine gw_val (by kernel_rfl) (some 25) rfl (.pointer (some ⟨gs, 0, none⟩)) (by kernel_rfl) ?_
        simp only [Act.put, List.setIfInBounds_toArray, List.set_cons_succ, List.set_cons_zero]
        refine gw_val (by kernel_rfl) (some 26) rfl (.pointer (some ⟨gs, 0, none⟩)) (by kernel_rfl) ?_
        simp only [Act.put, List.setIfInBounds_toArray, List.set_cons_succ, List.set_cons_zero]
        refine gw_val (by kernel_rfl) (some 27) rfl (.pointer (some ⟨gs, 1, none⟩)) (by kernel_rfl) ?_
        simp only [Act.put, List.setIfInBounds_toArray, List.set_cons_succ, List.set_cons_zero]
        refine gw_load (by kernel_rfl) (some 28) rfl 3 (.tmp 27) rfl ⟨gs, 1, none⟩ (.int .i64 N) (by kernel_rfl) (hM.num.load rfl (by kernel_rfl)) ?_
        simp only [Act.put, List.setIfInBounds_toArray, List.set_cons_succ, List.set_cons_zero]
        refine gw_val (by kernel_rfl) (some 29) rfl (.slice a n c) (by kernel_rfl) ?_
        simp only [Act.put, List.setIfInBounds_toArray, List.set_cons_succ, List.set_cons_zero]
        refine gw_val (by kernel_rfl) (some 30) rfl (.int .i64 n) (by kernel_rfl) ?_
        simp only [Act.put, List.setIfInBounds_toArray, List.set_cons_succ, List.set_cons_zero]
        refine gw_val (by kernel_rfl) (some 31) rfl (.bool (decide (N < n))) (lt_nat rfl N n (by kernel_rfl) (by kernel_rfl) _) ?_
        simp only [Act.put, List.setIfInBounds_toArray, List.set_cons_succ, List.set_cons_zero]
        rw [hd]
        apply wpList_nil
        have C1 := CX gs N 4 wr hM.num hM.bel (by omega) (by omega) (by omega)
        have hp1 := pl_range (L0.getD N 0) 4 (by omega)
        generalize pl (L0.getD N 0) 4 = q1 at *
        go_upto_region 11 with fail
        apply wp_region_lit
        refine gw_val (by kernel_rfl) (some 32) rfl (.pointer (some ⟨gs, 0, none⟩)) (by kernel_rfl) ?_
        simp only [Act.put, List.setIfInBounds_toArray, List.set_cons_succ, List.set_cons_zero]
        refine gw_call (by kernel_rfl) (some 33) rfl 26 #[.pointer (some ⟨gs, 0, none⟩), .int .i64 4] (.int .i64 q1) (fun w' => But gs wr w' ∧ Bx w' gs #[.slice a n c, .int .i64 (N + 1 : Nat)] 48) (by kernel_rfl) C1 (fun V1 hq => ?_)
        simp only [Act.put, List.setIfInBounds_toArray, List.set_cons_succ, List.set_cons_zero]
        obtain ⟨hb1, hx1⟩ := hq
        have hM1 := hM.num' hC hb1 hx1
        clear hb1 hx1 hM C1
        apply wpList_nil
        have hok9 : Ok m 900 := hO.mono (by omega)
        have hlL : L.length ≤ 1000 := by have := hS.len; have := hok9.1; omega
        go_upto_block 2 with fail
        go_cut [6] (fun s6 wx => ∃ N2 S2 m2 L2 av2 cv2, s6 = .slice av2 (List.length L2) cv2 ∧ MW R w a n c gs gl N2 S2 m2 L2 av2 cv2 wx ∧ SL m2 kept L2 (max most (L2.length + 1)) ∧ Ok m2 (N2 + 1) ∧ N + 1 ≤ N2 ∧ N2 ≤ N + 2)
        case first =>
          rcases (show q1 = 0 ∨ q1 = 1 ∨ q1 = 2 ∨ q1 = 3 by omega) with rfl | rfl | rfl | rfl
          · go_upto_region 13 with fail
            apply wp_region_lit
            refine gw_val (by kernel_rfl) (some 38) rfl (.bool true) (by kernel_rfl) ?_
            simp only [Act.put, List.setIfInBounds_toArray, List.set_cons_succ, List.set_cons_zero]
            refine gw_val (by kernel_rfl) (some 37) rfl (.bool true) (by kernel_rfl) ?_
            simp only [Act.put, List.setIfInBounds_toArray, List.set_cons_succ, List.set_cons_zero]
            apply wpList_nil
            have C2 := CX gs (N + 1) 50 V1 hM1.num hM1.bel (by omega) (by omega) (by omega)
            have hp2 := pl_range (L0.getD (N + 1) 0) 50 (by omega)
            generalize pl (L0.getD (N + 1) 0) 50 = v at *
            have CPf := fun V2 (h : MW R w a n c gs gl (N + 1 + 1) S m L av cv V2) => hC.pushF V2 gl S m v w.heap.size h.r hS.wm hok9 ⟨by omega, by omega⟩ (fun k hk => (h.so k hk).1) h.bel.size
            have hS2 := hS.pushF v
            have hO2 := hO.pushF v
            generalize (pushF m v).2 = s at *
            generalize (pushF m v).1 = m2 at *
            clear hp2 hp1 CX
            go_upto_region 15 with fail
            apply wp_region_lit
            refine gw_val (by kernel_rfl) (some 40) rfl (.slice av L.length cv) (by kernel_rfl) ?_
            simp only [Act.put, List.setIfInBounds_toArray, List.set_cons_succ, List.set_cons_zero]
            refine gw_val (by kernel_rfl) (some 41) rfl (.pointer (some ⟨gl, 0, none⟩)) (by kernel_rfl) ?_
            simp only [Act.put, List.setIfInBounds_toArray, List.set_cons_succ, List.set_cons_zero]
            refine gw_val (by kernel_rfl) (some 42) rfl (.pointer (some ⟨gs, 0, none⟩)) (by kernel_rfl) ?_
            simp only [Act.put, List.setIfInBounds_toArray, List.set_cons_succ, List.set_cons_zero]
            refine gw_call (by kernel_rfl) (some 43) rfl 26 #[.pointer (some ⟨gs, 0, none⟩), .int .i64 50] (.int .i64 v) (fun w' => But gs V1 w' ∧ Bx w' gs #[.slice a n c, .int .i64 (N + 1 + 1 : Nat)] 48) (by kernel_rfl) C2 (fun V2 hq => ?_)
            simp only [Act.put, List.setIfInBounds_toArray, List.set_cons_succ, List.set_cons_zero]
            obtain ⟨hb2, hx2⟩ := hq
            have hM2 := hM1.num' hC hb2 hx2
            clear hb2 hx2 C2 hM1
            refine gw_call (by kernel_rfl) (some 44) rfl 27 #[.pointer (some ⟨gl, 0, none⟩), .int .i64 v] (.int .i64 s) (fun w' => Upd R gl w.heap.size S m2 V2 w') (by kernel_rfl) (CPf V2 hM2) (fun V3 hu => ?_)
            simp only [Act.put, List.setIfInBounds_toArray, List.set_cons_succ, List.set_cons_zero]
            obtain ⟨S3, hM3⟩ := hM2.prog hC hu
            obtain ⟨av2, cv2, V4, hap, hM4⟩ := hM3.app hC s hlL
            clear hM2 hu CPf
            refine gw_build (by kernel_rfl) (some 45) rfl 22 1 #[(0, .tmp 44)] rfl #[(0, .int .i64 s)] (by kernel_rfl) (.slice (some ⟨V3.heap.size, 0, none⟩) 1 1) _ (one_int s V3) ?_
            simp only [Act.put, List.setIfInBounds_toArray, List.set_cons_succ, List.set_cons_zero]
            refine append_step rfl (some 46) rfl 22 rfl (.tmp 40) (.tmp 45) 22 rfl (.slice av L.length cv) (.slice (some ⟨V3.heap.size, 0, none⟩) 1 1) (.slice av2 (L ++ [s]).length cv2) V4 (by kernel_rfl) (by kernel_rfl) hap ?_
            simp only [Act.put, List.setIfInBounds_toArray, List.set_cons_succ, List.set_cons_zero]
            refine gw_val (by kernel_rfl) (some 6) rfl (.slice av2 (L ++ [s]).length cv2) (by kernel_rfl) ?_
            simp only [Act.put, List.setIfInBounds_toArray, List.set_cons_succ, List.set_cons_zero]
            apply wpList_nil
            have hS3 : SL m2 kept (L ++ [s]) (max most ((L ++ [s]).length + 1)) := by rw [show (L ++ [s]).length + 1 = L.length + 2 by simp]; exact hS2
            have HF := Lib.hid (And.intro hM4 (And.intro hS3 (hO2.mono (show N + 1 + 1 ≤ N + 1 + 1 + 1 by omega))))
            clear hM3 hM4 hap hS2 hS3 hO2
            go_wp2_with fail
            go_meet
            exact ⟨N + 1 + 1, S3, m2, L ++ [s], av2, cv2, rfl, HF.out.1, HF.out.2.1, HF.out.2.2, by omega, by omega⟩
          · go_upto_region 13 with fail
            apply wp_region_lit
            refine gw_val (by kernel_rfl) (some 38) rfl (.bool false) (by kernel_rfl) ?_
            simp only [Act.put, List.setIfInBounds_toArray, List.set_cons_succ, List.set_cons_zero]
            refine gw_val (by kernel_rfl) (some 37) rfl (.bool false) (by kernel_rfl) ?_
            simp only [Act.put, List.setIfInBounds_toArray, List.set_cons_succ, List.set_cons_zero]
            apply wpList_nil
            go_upto_region 14 with fail
            apply wp_region_lit
            refine gw_val (by kernel_rfl) (some 39) rfl (.bool true) (by kernel_rfl) ?_
            simp only [Act.put, List.setIfInBounds_toArray, List.set_cons_succ, List.set_cons_zero]
            refine gw_val (by kernel_rfl) (some 37) rfl (.bool true) (by kernel_rfl) ?_
            simp only [Act.put, List.setIfInBounds_toArray, List.set_cons_succ, List.set_cons_zero]
            apply wpList_nil
            have C2 := CX gs (N + 1) 50 V1 hM1.num hM1.bel (by omega) (by omega) (by omega)
            have hp2 := pl_range (L0.getD (N + 1) 0) 50 (by omega)
            generalize pl (L0.getD (N + 1) 0) 50 = v at *
            have CPf := fun V2 (h : MW R w a n c gs gl (N + 1 + 1) S m L av cv V2) => hC.pushF V2 gl S m v w.heap.size h.r hS.wm hok9 ⟨by omega, by omega⟩ (fun k hk => (h.so k hk).1) h.bel.size
            have hS2 := hS.pushF v
            have hO2 := hO.pushF v
            generalize (pushF m v).2 = s at *
            generalize (pushF m v).1 = m2 at *
            clear hp2 hp1 CX
            go_upto_region 15 with fail
            apply wp_region_lit
            refine gw_val (by kernel_rfl) (some 40) rfl (.slice av L.length cv) (by kernel_rfl) ?_
            simp only [Act.put, List.setIfInBounds_toArray, List.set_cons_succ, List.set_cons_zero]
            refine gw_val (by kernel_rfl) (some 41) rfl (.pointer (some ⟨gl, 0, none⟩)) (by kernel_rfl) ?_
            simp only [Act.put, List.setIfInBounds_toArray, List.set_cons_succ, List.set_cons_zero]
            refine gw_val (by kernel_rfl) (some 42) rfl (.pointer (some ⟨gs, 0, none⟩)) (by kernel_rfl) ?_
            simp only [Act.put, List.setIfInBounds_toArray, List.set_cons_succ, List.set_cons_zero]
            refine gw_call (by kernel_rfl) (some 43) rfl 26 #[.pointer (some ⟨gs, 0, none⟩), .int .i64 50] (.int .i64 v) (fun w' => But gs V1 w' ∧ Bx w' gs #[.slice a n c, .int .i64 (N + 1 + 1 : Nat)] 48) (by kernel_rfl) C2 (fun V2 hq => ?_)
            simp only [Act.put, List.setIfInBounds_toArray, List.set_cons_succ, List.set_cons_zero]
            obtain ⟨hb2, hx2⟩ := hq
            have hM2 := hM1.num' hC hb2 hx2
            clear hb2 hx2 C2 hM1
            refine gw_call (by kernel_rfl) (some 44) rfl 27 #[.pointer (some ⟨gl, 0, none⟩), .int .i64 v] (.int .i64 s) (fun w' => Upd R gl w.heap.size S m2 V2 w') (by kernel_rfl) (CPf V2 hM2) (fun V3 hu => ?_)
            simp only [Act.put, List.setIfInBounds_toArray, List.set_cons_succ, List.set_cons_zero]
            obtain ⟨S3, hM3⟩ := hM2.prog hC hu
            obtain ⟨av2, cv2, V4, hap, hM4⟩ := hM3.app hC s hlL
            clear hM2 hu CPf
            refine gw_build (by kernel_rfl) (some 45) rfl 22 1 #[(0, .tmp 44)] rfl #[(0, .int .i64 s)] (by kernel_rfl) (.slice (some ⟨V3.heap.size, 0, none⟩) 1 1) _ (one_int s V3) ?_
            simp only [Act.put, List.setIfInBounds_toArray, List.set_cons_succ, List.set_cons_zero]
            refine append_step rfl (some 46) rfl 22 rfl (.tmp 40) (.tmp 45) 22 rfl (.slice av L.length cv) (.slice (some ⟨V3.heap.size, 0, none⟩) 1 1) (.slice av2 (L ++ [s]).length cv2) V4 (by kernel_rfl) (by kernel_rfl) hap ?_
            simp only [Act.put, List.setIfInBounds_toArray, List.set_cons_succ, List.set_cons_zero]
            refine gw_val (by kernel_rfl) (some 6) rfl (.slice av2 (L ++ [s]).length cv2) (by kernel_rfl) ?_
            simp only [Act.put, List.setIfInBounds_toArray, List.set_cons_succ, List.set_cons_zero]
            apply wpList_nil
            have hS3 : SL m2 kept (L ++ [s]) (max most ((L ++ [s]).length + 1)) := by rw [show (L ++ [s]).length + 1 = L.length + 2 by simp]; exact hS2
            have HF := Lib.hid (And.intro hM4 (And.intro hS3 (hO2.mono (show N + 1 + 1 ≤ N + 1 + 1 + 1 by omega))))
            clear hM3 hM4 hap hS2 hS3 hO2
            go_wp2_with fail
            go_meet
            exact ⟨N + 1 + 1, S3, m2, L ++ [s], av2, cv2, rfl, HF.out.1, HF.out.2.1, HF.out.2.2, by omega, by omega⟩
          · go_upto_region 13 with fail
            apply wp_region_lit
            refine gw_val (by kernel_rfl) (some 38) rfl (.bool false) (by kernel_rfl) ?_
            simp only [Act.put, List.setIfInBounds_toArray, List.set_cons_succ, List.set_cons_zero]
            refine gw_val (by kernel_rfl) (some 37) rfl (.bool false) (by kernel_rfl) ?_
            simp only [Act.put, List.setIfInBounds_toArray, List.set_cons_succ, List.set_cons_zero]
            apply wpList_nil
            go_upto_region 14 with fail
            apply wp_region_lit
            refine gw_val (by kernel_rfl) (some 39) rfl (.bool false) (by kernel_rfl) ?_
            simp only [Act.put, List.setIfInBounds_toArray, List.set_cons_succ, List.set_cons_zero]
            refine gw_val (by kernel_rfl) (some 37) rfl (.bool false) (by kernel_rfl) ?_
            simp only [Act.put, List.setIfInBounds_toArray, List.set_cons_succ, List.set_cons_zero]
            apply wpList_nil
            go_upto_region 16 with fail
            apply wp_region_lit
            refine gw_val (by kernel_rfl) (some 48) rfl (.bool true) (by kernel_rfl) ?_
            simp only [Act.put, List.setIfInBounds_toArray, List.set_cons_succ, List.set_cons_zero]
            refine gw_val (by kernel_rfl) (some 47) rfl (.bool true) (by kernel_rfl) ?_
            simp only [Act.put, List.setIfInBounds_toArray, List.set_cons_succ, List.set_cons_zero]
            apply wpList_nil
            go_upto_region 17 with fail
            apply wp_region_lit
            refine gw_val (by kernel_rfl) (some 49) rfl (.slice av L.length cv) (by kernel_rfl) ?_
            simp only [Act.put, List.setIfInBounds_toArray, List.set_cons_succ, List.set_cons_zero]
            refine gw_val (by kernel_rfl) (some 50) rfl (.int .i64 L.length) (by kernel_rfl) ?_
            simp only [Act.put, List.setIfInBounds_toArray, List.set_cons_succ, List.set_cons_zero]
            refine gw_val (by kernel_rfl) (some 8) rfl (.int .i64 L.length) (by kernel_rfl) ?_
            simp only [Act.put, List.setIfInBounds_toArray, List.set_cons_succ, List.set_cons_zero]
            apply wpList_nil
            by_cases hz : L.length = 0
            · have hd0 : decide ((0 : Int) < (L.length : Int)) = false := decide_eq_false (by omega)
              go_upto_region 18 with fail
              apply wp_region_lit
              refine gw_val (by kernel_rfl) (some 51) rfl (.int .i64 L.length) (by kernel_rfl) ?_
              simp only [Act.put, List.setIfInBounds_toArray, List.set_cons_succ, List.set_cons_zero]
              refine gw_val (by kernel_rfl) (some 52) rfl (.bool (decide ((0 : Int) < (L.length : Int)))) (by kernel_rfl) ?_
              simp only [Act.put, List.setIfInBounds_toArray, List.set_cons_succ, List.set_cons_zero]
              rw [hd0]
              apply wpList_nil
              have HF := Lib.hid (And.intro hM1 (And.intro (hS.most (show most ≤ max most (L.length + 1) by omega)) (hO.mono (show N + 1 ≤ N + 1 + 1 by omega))))
              clear hM1 hS hO CX
              go_wp2_with fail
              go_meet
              exact ⟨N + 1, S, m, L, av, cv, rfl, HF.out.1, HF.out.2.1, HF.out.2.2, by omega, by omega⟩
            · have hd0 : decide ((0 : Int) < (L.length : Int)) = true := decide_eq_true (by omega)
              go_upto_region 18 with fail
              apply wp_region_lit
              refine gw_val (by kernel_rfl) (some 51) rfl (.int .i64 L.length) (by kernel_rfl) ?_
              simp only [Act.put, List.setIfInBounds_toArray, List.set_cons_succ, List.set_cons_zero]
              refine gw_val (by kernel_rfl) (some 52) rfl (.bool (decide ((0 : Int) < (L.length : Int)))) (by kernel_rfl) ?_
              simp only [Act.put, List.setIfInBounds_toArray, List.set_cons_succ, List.set_cons_zero]
              rw [hd0]
              apply wpList_nil
              have C2 := CX gs (N + 1) L.length V1 hM1.num hM1.bel (by omega) (by omega) (by omega)
              have hp2 := pl_range (L0.getD (N + 1) 0) L.length (by omega)
              generalize pl (L0.getD (N + 1) 0) L.length = i0 at *
              obtain ⟨i, rfl⟩ := Int.eq_ofNat_of_zero_le hp2.1
              have hi : i < L.length := by omega
              clear hp2 hp1 CX hd0 hz
              go_upto_region 19 with fail
              apply wp_region_lit
              refine gw_val (by kernel_rfl) (some 53) rfl (.pointer (some ⟨gs, 0, none⟩)) (by kernel_rfl) ?_
              simp only [Act.put, List.setIfInBounds_toArray, List.set_cons_succ, List.set_cons_zero]
              refine gw_val (by kernel_rfl) (some 54) rfl (.int .i64 L.length) (by kernel_rfl) ?_
              simp only [Act.put, List.setIfInBounds_toArray, List.set_cons_succ, List.set_cons_zero]
              refine gw_call (by kernel_rfl) (some 55) rfl 26 #[.pointer (some ⟨gs, 0, none⟩), .int .i64 L.length] (.int .i64 i) (fun w' => But gs V1 w' ∧ Bx w' gs #[.slice a n c, .int .i64 (N + 1 + 1 : Nat)] 48) (by kernel_rfl) C2 (fun V2 hq => ?_)
              simp only [Act.put, List.setIfInBounds_toArray, List.set_cons_succ, List.set_cons_zero]
              obtain ⟨hb2, hx2⟩ := hq
              have hM2 := hM1.num' hC hb2 hx2
              clear hb2 hx2 C2 hM1
              refine gw_val (by kernel_rfl) (some 9) rfl (.int .i64 i) (by kernel_rfl) ?_
              simp only [Act.put, List.setIfInBounds_toArray, List.set_cons_succ, List.set_cons_zero]
              apply wpList_nil
              obtain ⟨_, _, e9, hcs, -⟩ := own_cs hM2.row
              simp only [Value.slice.injEq, true_and] at e9
              obtain ⟨rfl, rfl⟩ := e9
              obtain ⟨b, off, rfl, hbb, hcx⟩ := int_at hcs hi
              have hs64 : I64 (L.getD i 0) := by
                have hx : L.getD i 0 ∈ L := by rw [getD_lt L i 0 hi]; exact List.getElem_mem hi
                have h1 := hS.each hx
                have h2 := hS.um
                exact ⟨by omega, by omega⟩
              obtain ⟨hrt, hS2⟩ := hS.remove hi
              have hO2 := hO.remove (L.getD i 0)
              have CR := hC.remove V2 gl S m (L.getD i 0) w.heap.size hM2.r hS.wm hok9 hs64 (fun k hk => (hM2.so k hk).1) hM2.bel.size
              rw [hrt] at CR
              generalize (removeM m (L.getD i 0)).1 = m2 at *
              generalize L.getD i 0 = s at *
              clear hrt hs64 hcs hbb
              go_upto_region 20 with fail
              apply wp_region_lit
              refine gw_val (by kernel_rfl) (some 56) rfl (.pointer (some ⟨gl, 0, none⟩)) (by kernel_rfl) ?_
              simp only [Act.put, List.setIfInBounds_toArray, List.set_cons_succ, List.set_cons_zero]
              refine gw_val (by kernel_rfl) (some 57) rfl (.slice (some ⟨b, off, none⟩) L.length cv) (by kernel_rfl) ?_
              simp only [Act.put, List.setIfInBounds_toArray, List.set_cons_succ, List.set_cons_zero]
              refine gw_val (by kernel_rfl) (some 58) rfl (.int .i64 i) (by kernel_rfl) ?_
              simp only [Act.put, List.setIfInBounds_toArray, List.set_cons_succ, List.set_cons_zero]
              refine gw_val (by kernel_rfl) (some 59) rfl (.pointer (some ⟨b, off + i, none⟩)) (idx_int b off L.length cv i hi _ _ _ rfl (by kernel_rfl) (by kernel_rfl)) ?_
              simp only [Act.put, List.setIfInBounds_toArray, List.set_cons_succ, List.set_cons_zero]
              refine gw_load (by kernel_rfl) (some 60) rfl 3 (.tmp 59) rfl ⟨b, off + i, none⟩ (.int .i64 s) (by kernel_rfl) (load_cell hcx (by kernel_rfl)) ?_
              simp only [Act.put, List.setIfInBounds_toArray, List.set_cons_succ, List.set_cons_zero]
              refine gw_call (by kernel_rfl) (some 61) rfl 28 #[.pointer (some ⟨gl, 0, none⟩), .int .i64 s] (.bool true) (fun w' => Upd R gl w.heap.size S m2 V2 w') (by kernel_rfl) CR (fun V3 hu => ?_)
              simp only [Act.put, List.setIfInBounds_toArray, List.set_cons_succ, List.set_cons_zero]
              refine gw_val (by kernel_rfl) (some 62) rfl (.bool false) (by kernel_rfl) ?_
              simp only [Act.put, List.setIfInBounds_toArray, List.set_cons_succ, List.set_cons_zero]
              apply wpList_nil
              obtain ⟨S3, hM3⟩ := hM2.prog hC hu
              clear hM2 hu CR hcx
              have hbd : Below V3.heap.size V3 { V3 with drawn := V3.drawn + 1 } := (Below.refl _ V3).drew
              obtain ⟨_, _, e9, hcs, hcc⟩ := own_cs hM3.row
              simp only [Value.slice.injEq, true_and] at e9
              obtain ⟨rfl, rfl⟩ := e9
              have HC := Lib.hid hcs
              have hcut1 : (L.take i).length = i := by rw [List.length_take]; omega
              have hcut2 : (L.drop (i + 1)).length = L.length - (i + 1) := by rw [List.length_drop]
              have hcut3 : (L.take i ++ L.drop (i + 1)).length = i + (L.length - (i + 1)) := by rw [List.length_append, hcut1, hcut2]
              have hbv : ({ V3 with drawn := V3.drawn + 1 } : World).heap.size = V3.heap.size := rfl
              have h0 : SF V3 L i false false false false false false false false u63 u67 u72 { V3 with drawn := V3.drawn + 1 } := ⟨hbd, fun h => (by cases h), fun h => (by cases h), fun h => (by cases h), fun h => (by cases h), fun h => (by cases h), fun h => (by cases h), fun h => (by cases h), fun h => (by cases h), fun h => (by cases h), fun h => (by cases h)⟩
              have hM3' := hM3
              clear hcs hbd hbv hM3
              go_upto_region 22 with fail
              refine wp_region_inv (fun listed act9 V => ∃ b0 b1 b2 b3 b4 b5 b6 b7 b8 b9 b10 : Bool, ∃ x63 x67 x72 : Value, listed = #[b0, b1, b2, b3, b4, b5, b6, b7, b8, b9, b10] ∧ act9 = { tmps := #[.slice a n c, undef, u2, .pointer (some ⟨gl, 0, none⟩), .pointer (some ⟨gs, 0, none⟩), .int .i64 kept, (cond b10 (x72) (.slice (some ⟨b, off, none⟩) L.length cv)), .int .i64 most, .int .i64 L.length, .int .i64 i, u10, u11, undef, u13, .slice a n c, .slice (some ⟨w.heap.size, 0, none⟩) 1 1, .bool false, undef, .pointer (some ⟨gl, 0, none⟩), .pointer (some ⟨gl, 0, none⟩), .bool false, .slice a n c, .pointer (some ⟨gs, 0, none⟩), .pointer (some ⟨gl, 0, none⟩), .int .i64 kept, .pointer (some ⟨gs, 0, none⟩), .pointer (some ⟨gs, 0, none⟩), .pointer (some ⟨gs, 1, none⟩), .int .i64 N, .slice a n c, .int .i64 n, .bool true, .pointer (some ⟨gs, 0, none⟩), .int .i64 2, u34, u35, u36, .bool false, .bool false, .bool false, u40, u41, u42, u43, u44, u45, u46, .bool true, .bool true, .slice (some ⟨b, off, none⟩) L.length cv, .int .i64 L.length, .int .i64 L.length, .bool true, .pointer (some ⟨gs, 0, none⟩), .int .i64 L.length, .int .i64 i, .pointer (some ⟨gl, 0, none⟩), .slice (some ⟨b, off, none⟩) L.length cv, .int .i64 i, .pointer (some ⟨b, off + i, none⟩), .int .i64 s, .bool true, .bool false, x63, (cond b1 (.slice (some ⟨b, off, none⟩) L.length cv) (u64)), (cond b2 (.int .i64 i) (u65)), (cond b3 (.slice (some ⟨b, off, none⟩) i cv) (u66)), x67, (cond b5 (.slice (some ⟨b, off, none⟩) L.length cv) (u68)), (cond b6 (.int .i64 i) (u69)), (cond b7 (.int .i64 (i + 1 : Nat)) (u70)), (cond b8 (.slice (fromS 1 (some ⟨b, off, none⟩) cv (i + 1)) (L.length - (i + 1)) (cv - (i + 1))) (u71)), x72, u73, u74, u75, u76, u77, u78, u79, u80, u81, u82, u83, u84, u85, u86, u87, u88, u89, u90, u91, u92, u93, u94, u95, u96, u97, u98, u99, u100, u101, u102, u103, u104, u105, u106, u107, u108, u109, u110, u111, u112, u113, u114, u115, u116, undef], defers := [] } ∧ SF V3 L i b0 b1 b3 b4 b5 b8 b9 b10 x63 x67 x72 V) (by kernel_rfl) (by kernel_rfl) ?_ ?_ ?_
              · exact ⟨false, false, false, false, false, false, false, false, false, false, false, u63, u67, u72, rfl, rfl, h0⟩
              · intro i9 listed act9 V hi9 hr hJ
                obtain ⟨b0, b1, b2, b3, b4, b5, b6, b7, b8, b9, b10, x63, x67, x72, rfl, rfl, hF⟩ := hJ
                have hi2 : i9 < 11 := hi9
                have hi3 : i9 = 0 ∨ i9 = 1 ∨ i9 = 2 ∨ i9 = 3 ∨ i9 = 4 ∨ i9 = 5 ∨ i9 = 6 ∨ i9 = 7 ∨ i9 = 8 ∨ i9 = 9 ∨ i9 = 10 := by omega
                rcases hi3 with rfl | rfl | rfl | rfl | rfl | rfl | rfl | rfl | rfl | rfl | rfl
                · obtain rfl : b0 = false := ready_self hr
                  obtain rfl : b4 = false := by cases b4; rfl; exact absurd (hF.c0 rfl) (by decide)
                  refine st_build rfl (by kernel_rfl) (some 63) rfl 22 0 #[] rfl #[] (by kernel_rfl) (.slice (some ⟨V.heap.size, 0, none⟩) 0 0) _ (nil_int V) ?_
                  exact ⟨true, b1, b2, b3, false, b5, b6, b7, b8, b9, b10, _, x67, x72, rfl, rfl, hF.made⟩
                · obtain rfl : b1 = false := ready_self hr
                  obtain rfl : b10 = false := by cases b10; rfl; exact absurd (hF.c1 (hF.c3 (hF.c4 (hF.c10 rfl)))) (by decide)
                  obtain rfl : b3 = false := by cases b3; rfl; exact absurd (hF.c1 rfl) (by decide)
                  refine st_val rfl (by kernel_rfl) (some 64) rfl (.slice (some ⟨b, off, none⟩) L.length cv) V (by kernel_rfl) ?_
                  exact ⟨b0, true, b2, false, b4, b5, b6, b7, b8, b9, false, x63, x67, x72, rfl, rfl, { hF with c1 := fun _ => rfl }⟩
                · obtain rfl : b2 = false := ready_self hr
                  refine st_val rfl (by kernel_rfl) (some 65) rfl (.int .i64 i) V (by kernel_rfl) ?_
                  exact ⟨b0, b1, true, b3, b4, b5, b6, b7, b8, b9, b10, x63, x67, x72, rfl, rfl, hF⟩
                · obtain rfl : b3 = false := ready_self hr
                  obtain rfl : b1 = true := ready_dep hr 1 (by kernel_rfl)
                  obtain rfl : b2 = true := ready_dep hr 2 (by kernel_rfl)
                  obtain rfl : b4 = false := by cases b4; rfl; exact absurd (hF.c3 rfl) (by decide)
                  refine st_slice_to rfl (by kernel_rfl) (some 66) rfl 22 (.tmp 64) (.tmp 65) rfl (.slice (some ⟨b, off, none⟩) L.length cv) (.int .i64 (i : Int)) (.slice (some ⟨b, off, none⟩) i cv) (by kernel_rfl) (by kernel_rfl) (cut_int_to (some ⟨b, off, none⟩) L.length cv i V (by omega)) ?_
                  exact ⟨b0, true, true, true, false, b5, b6, b7, b8, b9, b10, x63, x67, x72, rfl, rfl, { hF with c1 := fun _ => rfl, c3 := fun _ => rfl }⟩
                · obtain rfl : b4 = false := ready_self hr
                  obtain rfl : b0 = true := ready_dep hr 0 (by kernel_rfl)
                  obtain rfl : b3 = true := ready_dep hr 3 (by kernel_rfl)
                  obtain rfl : b9 = false := by cases b9; rfl; exact absurd (hF.c4 rfl) (by decide)
                  have hO := hF.f63 rfl rfl
                  obtain ⟨v, V2, hap, hO2, hb2, -⟩ := append_int hO (some ⟨b, off, none⟩) cv (L.take i) (by rw [← icells_take, Nat.mul_one]; exact (HC.out.below hF.bel).take _) hcut1 (by have := hF.bel.size; exact this) (by omega) (by omega)
                  rw [show icells [] ++ icells (L.take i) = icells (L.take i) from rfl, Nat.zero_add] at hO2
                  refine st_append rfl (by kernel_rfl) (some 67) rfl 22 rfl (.tmp 63) (.tmp 66) 22 rfl x63 (.slice (some ⟨b, off, none⟩) i cv) v V2 (by kernel_rfl) (by kernel_rfl) hap ?_
                  exact ⟨true, b1, b2, true, true, b5, b6, b7, b8, false, b10, x63, v, x72, rfl, rfl, hF.one hO2 hb2⟩
                · obtain rfl : b5 = false := ready_self hr
                  obtain rfl : b10 = false := by cases b10; rfl; exact absurd (hF.c5 (hF.c8 (hF.c10 rfl))) (by decide)
                  obtain rfl : b8 = false := by cases b8; rfl; exact absurd (hF.c5 rfl) (by decide)
                  refine st_val rfl (by kernel_rfl) (some 68) rfl (.slice (some ⟨b, off, none⟩) L.length cv) V (by kernel_rfl) ?_
                  exact ⟨b0, b1, b2, b3, b4, true, b6, b7, false, b9, false, x63, x67, x72, rfl, rfl, { hF with c5 := fun _ => rfl }⟩
                · obtain rfl : b6 = false := ready_self hr
                  refine st_val rfl (by kernel_rfl) (some 69) rfl (.int .i64 i) V (by kernel_rfl) ?_
                  exact ⟨b0, b1, b2, b3, b4, b5, true, b7, b8, b9, b10, x63, x67, x72, rfl, rfl, hF⟩
                · obtain rfl : b7 = false := ready_self hr
                  obtain rfl : b6 = true := ready_dep hr 6 (by kernel_rfl)
                  refine st_val rfl (by kernel_rfl) (some 70) rfl (.int .i64 (i + 1 : Nat)) V (add_one rfl i (by omega) (by kernel_rfl) V) ?_
                  exact ⟨b0, b1, b2, b3, b4, b5, true, true, b8, b9, b10, x63, x67, x72, rfl, rfl, hF⟩
                · obtain rfl : b8 = false := ready_self hr
                  obtain rfl : b5 = true := ready_dep hr 5 (by kernel_rfl)
                  obtain rfl : b7 = true := ready_dep hr 7 (by kernel_rfl)
                  obtain rfl : b9 = false := by cases b9; rfl; exact absurd (hF.c8 rfl) (by decide)
                  refine st_slice_from rfl (by kernel_rfl) (some 71) rfl 22 (.tmp 68) (.tmp 70) rfl (.slice (some ⟨b, off, none⟩) L.length cv) (.int .i64 ((i + 1 : Nat) : Int)) (.slice (fromS 1 (some ⟨b, off, none⟩) cv (i + 1)) (L.length - (i + 1)) (cv - (i + 1))) (by kernel_rfl) (by kernel_rfl) (cut_int_from (some ⟨b, off, none⟩) L.length cv (i + 1) V (by omega)) ?_
                  exact ⟨b0, b1, b2, b3, b4, true, b6, true, true, false, b10, x63, x67, x72, rfl, rfl, { hF with c5 := fun _ => rfl, c8 := fun _ => rfl }⟩
                · obtain rfl : b9 = false := ready_self hr
                  obtain rfl : b4 = true := ready_dep hr 4 (by kernel_rfl)
                  obtain rfl : b8 = true := ready_dep hr 8 (by kernel_rfl)
                  obtain rfl : b10 = false := by cases b10; rfl; exact absurd (hF.c10 rfl) (by decide)
                  have hO := hF.f67 rfl rfl
                  obtain ⟨v, V2, hap, hO2, hb2, -⟩ := append_int hO (fromS 1 (some ⟨b, off, none⟩) cv (i + 1)) (cv - (i + 1)) (L.drop (i + 1)) (by rw [← icells_drop]; exact (HC.out.below hF.bel).from 1 cv (i + 1) (by rw [icells_len]; omega)) hcut2 (by have := hF.bel.size; exact this) (by omega) (by omega)
                  rw [← icells_app, ← hcut3] at hO2
                  refine st_append rfl (by kernel_rfl) (some 72) rfl 22 rfl (.tmp 67) (.tmp 71) 22 rfl x67 (.slice (fromS 1 (some ⟨b, off, none⟩) cv (i + 1)) (L.length - (i + 1)) (cv - (i + 1))) v V2 (by kernel_rfl) (by kernel_rfl) hap ?_
                  exact ⟨b0, b1, b2, b3, true, b5, b6, b7, true, true, false, x63, x67, v, rfl, rfl, hF.two hO2 hb2⟩
                · obtain rfl : b10 = false := ready_self hr
                  obtain rfl : b9 = true := ready_dep hr 9 (by kernel_rfl)
                  refine st_val rfl (by kernel_rfl) (some 6) rfl (x72) V (by kernel_rfl) ?_
                  exact ⟨b0, b1, b2, b3, b4, b5, b6, b7, b8, true, true, x63, x67, x72, rfl, rfl, { hF with c10 := fun _ => rfl }⟩
              · intro act9 V hJ
                obtain ⟨b0, b1, b2, b3, b4, b5, b6, b7, b8, b9, b10, x63, x67, x72, he, rfl, hF⟩ := hJ
                have he : (#[true, true, true, true, true, true, true, true, true, true, true] : Array Bool) = #[b0, b1, b2, b3, b4, b5, b6, b7, b8, b9, b10] := he
                simp only [Array.mk.injEq, List.cons.injEq, and_true] at he
                obtain ⟨rfl, rfl, rfl, rfl, rfl, rfl, rfl, rfl, rfl, rfl, rfl⟩ := he
                simp only [cond_true]
                have hO := hF.f72 rfl
                obtain ⟨av2, cv2, rfl, -, -⟩ := own_cs hO
                have hM5 := hM3'.fresh hC hF.bel hO
                have HF := Lib.hid (And.intro hM5 (And.intro (hS2.most (show most ≤ max most ((L.take i ++ L.drop (i + 1)).length + 1) by omega)) (hO2.mono (show N + 1 + 1 ≤ N + 1 + 1 + 1 by omega))))
                clear hF h0 hO hM5 hS2 hO2
                go_wp2_with fail
                go_meet
                exact ⟨N + 1 + 1, S3, m2, L.take i ++ L.drop (i + 1), av2, cv2, rfl, HF.out.1, HF.out.2.1, HF.out.2.2, by omega, by omega⟩
          · go_upto_region 13 with fail
            apply wp_region_lit
            refine gw_val (by kernel_rfl) (some 38) rfl (.bool false) (by kernel_rfl) ?_
            simp only [Act.put, List.setIfInBounds_toArray, List.set_cons_succ, List.set_cons_zero]
            refine gw_val (by kernel_rfl) (some 37) rfl (.bool false) (by kernel_rfl) ?_
            simp only [Act.put, List.setIfInBounds_toArray, List.set_cons_succ, List.set_cons_zero]
            apply wpList_nil
            go_upto_region 14 with fail
            apply wp_region_lit
            refine gw_val (by kernel_rfl) (some 39) rfl (.bool false) (by kernel_rfl) ?_
            simp only [Act.put, List.setIfInBounds_toArray, List.set_cons_succ, List.set_cons_zero]
            refine gw_val (by kernel_rfl) (some 37) rfl (.bool false) (by kernel_rfl) ?_
            simp only [Act.put, List.setIfInBounds_toArray, List.set_cons_succ, List.set_cons_zero]
            apply wpList_nil
            go_upto_region 16 with fail
            apply wp_region_lit
            refine gw_val (by kernel_rfl) (some 48) rfl (.bool false) (by kernel_rfl) ?_
            simp only [Act.put, List.setIfInBounds_toArray, List.set_cons_succ, List.set_cons_zero]
            refine gw_val (by kernel_rfl) (some 47) rfl (.bool false) (by kernel_rfl) ?_
            simp only [Act.put, List.setIfInBounds_toArray, List.set_cons_succ, List.set_cons_zero]
            apply wpList_nil
            have CM := hC.move V1 gl S m kept w.heap.size hM1.r hS.wm hok9 hk64 (fun k hk => (hM1.so k hk).1) hM1.bel.size
            have hS2 := hS.move kept
            have hO2 := hO.move kept
            generalize (moveM m kept).2 = t at *
            generalize (moveM m kept).1 = m2 at *
            clear CX hp1
            go_upto_region 12 with fail
            apply wp_region_lit
            refine gw_val (by kernel_rfl) (some 34) rfl (.pointer (some ⟨gl, 0, none⟩)) (by kernel_rfl) ?_
            simp only [Act.put, List.setIfInBounds_toArray, List.set_cons_succ, List.set_cons_zero]
            refine gw_val (by kernel_rfl) (some 35) rfl (.int .i64 kept) (by kernel_rfl) ?_
            simp only [Act.put, List.setIfInBounds_toArray, List.set_cons_succ, List.set_cons_zero]
            refine gw_call (by kernel_rfl) (some 36) rfl 29 #[.pointer (some ⟨gl, 0, none⟩), .int .i64 kept] (.bool t) (fun w' => Upd R gl w.heap.size S m2 V1 w') (by kernel_rfl) CM (fun V3 hu => ?_)
            simp only [Act.put, List.setIfInBounds_toArray, List.set_cons_succ, List.set_cons_zero]
            apply wpList_nil
            obtain ⟨S3, hM3⟩ := hM1.prog hC hu
            have HF := Lib.hid (And.intro hM3 (And.intro (hS2.most (show most ≤ max most (L.length + 1) by omega)) hO2))
            clear hM1 hu CM hS2 hO2 hM3
            go_wp2_with fail
            go_meet
            exact ⟨N + 1, S3, m2, L, av, cv, rfl, HF.out.1, HF.out.2.1, HF.out.2.2, by omega, by omega⟩
        case rest =>
          obtain ⟨N2, S2, m2, L2, av2, cv2, rfl, hM2, hS2, hO2, hn1, hn2⟩ := hcut
          have hok2 : Ok m2 900 := hO2.mono (by omega)
          have hl2 := hS2.len
          have hle2 : L2.length + 1 ≤ N2 + 1 := by have := hO2.1; omega
          have hkv := hS2.kept_value
          have hMx : max most (L2.length + 1) ≤ N2 + 1 := by omega
          obtain ⟨M, hMM⟩ : ∃ M, max most (L2.length + 1) = M := ⟨_, rfl⟩
          have HMM := Lib.hid hMM
          rw [hMM] at hS2 hMx
          have HG2 : Hid (n - N2 < gk ∧ N2 ≤ n + 1) := Lib.hid ⟨by have := HG.out; omega, by have := HG.out; omega⟩
          have HS := Lib.hid hS2
          have HO := Lib.hid hO2
          have hlb : L2.length ≤ 1000000 := by omega
          clear hM1 hS hO hok9 hlL hMM hO2 hp1
          go_upto_region 23 with fail
          apply wp_region_lit
          refine gw_val (by kernel_rfl) (some 73) rfl (.int .i64 most) (by kernel_rfl) ?_
          simp only [Act.put, List.setIfInBounds_toArray, List.set_cons_succ, List.set_cons_zero]
          refine gw_val (by kernel_rfl) (some 74) rfl (.slice av2 L2.length cv2) (by kernel_rfl) ?_
          simp only [Act.put, List.setIfInBounds_toArray, List.set_cons_succ, List.set_cons_zero]
          refine gw_val (by kernel_rfl) (some 75) rfl (.int .i64 L2.length) (by kernel_rfl) ?_
          simp only [Act.put, List.setIfInBounds_toArray, List.set_cons_succ, List.set_cons_zero]
          refine gw_val (by kernel_rfl) (some 76) rfl (.int .i64 (L2.length + 1 : Nat)) (add_one rfl L2.length hlb (by kernel_rfl) _) ?_
          simp only [Act.put, List.setIfInBounds_toArray, List.set_cons_succ, List.set_cons_zero]
          refine gw_val (by kernel_rfl) (some 77) rfl (.int .i64 (max most (L2.length + 1) : Nat)) (max_nat rfl most (L2.length + 1) (by kernel_rfl) (by kernel_rfl) _) ?_
          simp only [Act.put, List.setIfInBounds_toArray, List.set_cons_succ, List.set_cons_zero]
          rw [HMM.out]
          refine gw_val (by kernel_rfl) (some 7) rfl (.int .i64 M) (by kernel_rfl) ?_
          simp only [Act.put, List.setIfInBounds_toArray, List.set_cons_succ, List.set_cons_zero]
          apply wpList_nil
          have C18 := fun V (h : MW R w a n c gs gl N2 S2 m2 L2 av2 cv2 V) => (hC.value V gl S2 m2 kept h.r hS2.wm hok2 hk64).mono fun e w' q => (And.intro q.1 (h.below hC q.2) : e = _ ∧ MW R w a n c gs gl N2 S2 m2 L2 av2 cv2 w')
          rw [hkv] at C18
          have C14 := fun V (h : MW R w a n c gs gl N2 S2 m2 L2 av2 cv2 V) => (hC.len V gl S2 m2 h.r hS2.wm hok2).mono fun e w' q => (And.intro q.1 (h.below hC q.2) : e = _ ∧ MW R w a n c gs gl N2 S2 m2 L2 av2 cv2 w')
          rw [hl2] at C14
          clear hkv hl2 hS2 hok2
          go_upto_region 24 with fail
          apply wp_region_lit
          refine gw_val (by kernel_rfl) (some 79) rfl (.pointer (some ⟨gl, 0, none⟩)) (by kernel_rfl) ?_
          simp only [Act.put, List.setIfInBounds_toArray, List.set_cons_succ, List.set_cons_zero]
          refine gw_val (by kernel_rfl) (some 80) rfl (.int .i64 kept) (by kernel_rfl) ?_
          simp only [Act.put, List.setIfInBounds_toArray, List.set_cons_succ, List.set_cons_zero]
          refine gw_call (by kernel_rfl) (some 81) rfl 18 #[.pointer (some ⟨gl, 0, none⟩), .int .i64 kept] (.tuple #[.int .i64 1000, .bool true]) (MW R w a n c gs gl N2 S2 m2 L2 av2 cv2) (by kernel_rfl) (C18 _ hM2) (fun V5 hM5 => ?_)
          simp only [Act.put, List.setIfInBounds_toArray, List.set_cons_succ, List.set_cons_zero]
          refine gw_val (by kernel_rfl) (some 78) rfl (.tuple #[.int .i64 1000, .bool true]) (by kernel_rfl) ?_
          simp only [Act.put, List.setIfInBounds_toArray, List.set_cons_succ, List.set_cons_zero]
          refine gw_val (by kernel_rfl) (some 82) rfl (.int .i64 1000) (by kernel_rfl) ?_
          simp only [Act.put, List.setIfInBounds_toArray, List.set_cons_succ, List.set_cons_zero]
          refine gw_val (by kernel_rfl) (some 83) rfl (.bool true) (by kernel_rfl) ?_
          simp only [Act.put, List.setIfInBounds_toArray, List.set_cons_succ, List.set_cons_zero]
          refine gw_val (by kernel_rfl) (some 10) rfl (.int .i64 1000) (by kernel_rfl) ?_
          simp only [Act.put, List.setIfInBounds_toArray, List.set_cons_succ, List.set_cons_zero]
          refine gw_val (by kernel_rfl) (some 11) rfl (.bool true) (by kernel_rfl) ?_
          simp only [Act.put, List.setIfInBounds_toArray, List.set_cons_succ, List.set_cons_zero]
          apply wpList_nil
          clear C18 hM2
          go_upto_region 25 with fail
          apply wp_region_lit
          refine gw_val (by kernel_rfl) (some 84) rfl (.bool true) (by kernel_rfl) ?_
          simp only [Act.put, List.setIfInBounds_toArray, List.set_cons_succ, List.set_cons_zero]
          refine gw_val (by kernel_rfl) (some 85) rfl (.bool false) (by kernel_rfl) ?_
          simp only [Act.put, List.setIfInBounds_toArray, List.set_cons_succ, List.set_cons_zero]
          refine gw_val (by kernel_rfl) (some 86) rfl (.bool false) (by kernel_rfl) ?_
          simp only [Act.put, List.setIfInBounds_toArray, List.set_cons_succ, List.set_cons_zero]
          refine gw_val (by kernel_rfl) (some 87) rfl (.int .i64 1000) (by kernel_rfl) ?_
          simp only [Act.put, List.setIfInBounds_toArray, List.set_cons_succ, List.set_cons_zero]
          refine gw_val (by kernel_rfl) (some 88) rfl (.bool false) (by kernel_rfl) ?_
          simp only [Act.put, List.setIfInBounds_toArray, List.set_cons_succ, List.set_cons_zero]
          refine gw_val (by kernel_rfl) (some 89) rfl (.bool false) (by kernel_rfl) ?_
          simp only [Act.put, List.setIfInBounds_toArray, List.set_cons_succ, List.set_cons_zero]
          refine gw_val (by kernel_rfl) (some 90) rfl (.bool false) (by kernel_rfl) ?_
          simp only [Act.put, List.setIfInBounds_toArray, List.set_cons_succ, List.set_cons_zero]
          refine gw_val (by kernel_rfl) (some 91) rfl (.pointer (some ⟨gl, 0, none⟩)) (by kernel_rfl) ?_
          simp only [Act.put, List.setIfInBounds_toArray, List.set_cons_succ, List.set_cons_zero]
          refine gw_call (by kernel_rfl) (some 92) rfl 14 #[.pointer (some ⟨gl, 0, none⟩)] (.int .i64 (L2.length + 1 : Nat)) (MW R w a n c gs gl N2 S2 m2 L2 av2 cv2) (by kernel_rfl) (C14 _ hM5) (fun V6 hM6 => ?_)
          simp only [Act.put, List.setIfInBounds_toArray, List.set_cons_succ, List.set_cons_zero]
          refine gw_val (by kernel_rfl) (some 93) rfl (.slice av2 L2.length cv2) (by kernel_rfl) ?_
          simp only [Act.put, List.setIfInBounds_toArray, List.set_cons_succ, List.set_cons_zero]
          refine gw_val (by kernel_rfl) (some 94) rfl (.int .i64 L2.length) (by kernel_rfl) ?_
          simp only [Act.put, List.setIfInBounds_toArray, List.set_cons_succ, List.set_cons_zero]
          refine gw_val (by kernel_rfl) (some 95) rfl (.int .i64 (L2.length + 1 : Nat)) (add_one rfl L2.length hlb (by kernel_rfl) _) ?_
          simp only [Act.put, List.setIfInBounds_toArray, List.set_cons_succ, List.set_cons_zero]
          refine gw_val (by kernel_rfl) (some 96) rfl (.bool ((((L2.length + 1 : Nat) : Int)) != (((L2.length + 1 : Nat) : Int)))) (by kernel_rfl) ?_
          rw [bne_self_eq_false]
          simp only [Act.put, List.setIfInBounds_toArray, List.set_cons_succ, List.set_cons_zero]
          refine gw_val (by kernel_rfl) (some 97) rfl (.bool false) (by kernel_rfl) ?_
          simp only [Act.put, List.setIfInBounds_toArray, List.set_cons_succ, List.set_cons_zero]
          apply wpList_nil
          clear C14 hM5
          go_upto_region 27 with fail
          apply wp_region_lit
          refine gw_val (by kernel_rfl) (some 98) rfl (.slice av2 L2.length cv2) (by kernel_rfl) ?_
          simp only [Act.put, List.setIfInBounds_toArray, List.set_cons_succ, List.set_cons_zero]
          refine gw_val (by kernel_rfl) (some 99) rfl (.int .i64 L2.length) (by kernel_rfl) ?_
          simp only [Act.put, List.setIfInBounds_toArray, List.set_cons_succ, List.set_cons_zero]
          refine gw_val (by kernel_rfl) (some 100) rfl (.int .i64 0) (by kernel_rfl) ?_
          simp only [Act.put, List.setIfInBounds_toArray, List.set_cons_succ, List.set_cons_zero]
          apply wpList_nil
          have HM6 := Lib.hid hM6
          clear hM6
          generalize wr = wR at *
          generalize gk = gK at *
          go_wp2_with fail
          go_loopg [100] (L2.length) (fun gg s100 wx => ∃ j : Nat, s100 = .int .i64 j ∧ j ≤ L2.length ∧ V6 = wx ∧ L2.length - j = gg)
          case atStart => exact ⟨0, rfl, by omega, rfl, by omega⟩
          case round =>
            obtain ⟨j, rfl, hj, rfl, hgj⟩ := hrel
            by_cases hjl : j < L2.length
            · have hd : decide (j < L2.length) = true := decide_eq_true hjl
              obtain ⟨_, _, e9, hcs, -⟩ := own_cs HM6.out.row
              simp only [Value.slice.injEq, true_and] at e9
              obtain ⟨rfl, rfl⟩ := e9
              obtain ⟨b, off, rfl, hbb, hcx⟩ := int_at hcs hjl
              have hx : L2.getD j 0 ∈ L2 := by rw [getD_lt L2 j 0 hjl]; exact List.getElem_mem hjl
              have h1 := HS.out.each hx
              generalize L2.getD j 0 = x at *
              have hx0 : decide (x < 0) = false := decide_eq_false (by omega)
              have hx1 : decide ((M : Int) ≤ x) = false := decide_eq_false (by omega)
              have hx2 : (x == kept) = false := by simp; exact h1.2.2
              have HJ : Hid (L2.length - (j + 1) = gk - 1 ∧ 0 < gk ∧ j + 1 ≤ L2.length) := Lib.hid ⟨by omega, by omega, by omega⟩
              clear hx h1 hcs hbb hgj
              go_upto_region 28 with fail
              apply wp_region_lit
              refine gw_val (by kernel_rfl) (some 101) rfl (.bool (decide (j < L2.length))) (lt_nat rfl j L2.length (by kernel_rfl) (by kernel_rfl) _) ?_
              simp only [Act.put, List.setIfInBounds_toArray, List.set_cons_succ, List.set_cons_zero]
              rw [hd]
              apply wpList_nil
              go_upto_region 29 with fail
              apply wp_region_lit
              refine gw_val (by kernel_rfl) (some 102) rfl (.pointer (some ⟨b, off + j, none⟩)) (idx_int b off L2.length cv2 j hjl _ _ _ rfl (by kernel_rfl) (by kernel_rfl)) ?_
              simp only [Act.put, List.setIfInBounds_toArray, List.set_cons_succ, List.set_cons_zero]
              refine gw_load (by kernel_rfl) (some 103) rfl 3 (.tmp 102) rfl ⟨b, off + j, none⟩ (.int .i64 x) (by kernel_rfl) (load_cell hcx (by kernel_rfl)) ?_
              simp only [Act.put, List.setIfInBounds_toArray, List.set_cons_succ, List.set_cons_zero]
              refine gw_val (by kernel_rfl) (some 13) rfl (.int .i64 x) (by kernel_rfl) ?_
              simp only [Act.put, List.setIfInBounds_toArray, List.set_cons_succ, List.set_cons_zero]
              apply wpList_nil
              go_upto_region 30 with fail
              apply wp_region_lit
              refine gw_val (by kernel_rfl) (some 104) rfl (.int .i64 x) (by kernel_rfl) ?_
              simp only [Act.put, List.setIfInBounds_toArray, List.set_cons_succ, List.set_cons_zero]
              refine gw_val (by kernel_rfl) (some 105) rfl (.bool (decide (x < 0))) (by kernel_rfl) ?_
              simp only [Act.put, List.setIfInBounds_toArray, List.set_cons_succ, List.set_cons_zero]
              rw [hx0]
              refine gw_val (by kernel_rfl) (some 106) rfl (.bool false) (by kernel_rfl) ?_
              simp only [Act.put, List.setIfInBounds_toArray, List.set_cons_succ, List.set_cons_zero]
              refine gw_val (by kernel_rfl) (some 107) rfl (.int .i64 x) (by kernel_rfl) ?_
              simp only [Act.put, List.setIfInBounds_toArray, List.set_cons_succ, List.set_cons_zero]
              refine gw_val (by kernel_rfl) (some 108) rfl (.int .i64 M) (by kernel_rfl) ?_
              simp only [Act.put, List.setIfInBounds_toArray, List.set_cons_succ, List.set_cons_zero]
              refine gw_val (by kernel_rfl) (some 109) rfl (.bool (decide ((M : Int) ≤ x))) (by kernel_rfl) ?_
              simp only [Act.put, List.setIfInBounds_toArray, List.set_cons_succ, List.set_cons_zero]
              rw [hx1]
              refine gw_val (by kernel_rfl) (some 110) rfl (.bool false) (by kernel_rfl) ?_
              simp only [Act.put, List.setIfInBounds_toArray, List.set_cons_succ, List.set_cons_zero]
              refine gw_val (by kernel_rfl) (some 111) rfl (.bool false) (by kernel_rfl) ?_
              simp only [Act.put, List.setIfInBounds_toArray, List.set_cons_succ, List.set_cons_zero]
              refine gw_val (by kernel_rfl) (some 112) rfl (.int .i64 x) (by kernel_rfl) ?_
              simp only [Act.put, List.setIfInBounds_toArray, List.set_cons_succ, List.set_cons_zero]
              refine gw_val (by kernel_rfl) (some 113) rfl (.int .i64 kept) (by kernel_rfl) ?_
              simp only [Act.put, List.setIfInBounds_toArray, List.set_cons_succ, List.set_cons_zero]
              refine gw_val (by kernel_rfl) (some 114) rfl (.bool (x == kept)) (by kernel_rfl) ?_
              simp only [Act.put, List.setIfInBounds_toArray, List.set_cons_succ, List.set_cons_zero]
              rw [hx2]
              refine gw_val (by kernel_rfl) (some 115) rfl (.bool false) (by kernel_rfl) ?_
              simp only [Act.put, List.setIfInBounds_toArray, List.set_cons_succ, List.set_cons_zero]
              apply wpList_nil
              go_upto_region 32 with fail
              apply wp_region_lit
              refine gw_val (by kernel_rfl) (some 116) rfl (.int .i64 (j + 1 : Nat)) (add_one rfl j (by omega) (by kernel_rfl) _) ?_
              simp only [Act.put, List.setIfInBounds_toArray, List.set_cons_succ, List.set_cons_zero]
              refine gw_val (by kernel_rfl) (some 100) rfl (.int .i64 (j + 1 : Nat)) (by kernel_rfl) ?_
              simp only [Act.put, List.setIfInBounds_toArray, List.set_cons_succ, List.set_cons_zero]
              apply wpList_nil
              clear hcx hx0 hx1 hx2 hd
              go_wp2_with fail
              go_roundg (gk - 1)
              case measure => have := HJ.out; omega
              case rel => exact ⟨j + 1, rfl, HJ.out.2.2, rfl, HJ.out.1⟩
            · have hd : decide (j < L2.length) = false := decide_eq_false hjl
              clear hgj hj hjl
              go_upto_region 28 with fail
              apply wp_region_lit
              refine gw_val (by kernel_rfl) (some 101) rfl (.bool (decide (j < L2.length))) (lt_nat rfl j L2.length (by kernel_rfl) (by kernel_rfl) _) ?_
              simp only [Act.put, List.setIfInBounds_toArray, List.set_cons_succ, List.set_cons_zero]
              rw [hd]
              apply wpList_nil
              clear hd
              go_wp2_with fail
              go_roundg (n - N2)
              case measure => exact HG2.out.1
              case rel => exact ⟨N2, S2, m2, L2, av2, cv2, M, rfl, rfl, HM6.out, HS.out, HO.out, by omega, HG2.out.2, rfl⟩
      · have hd : decide (N < n) = false := decide_eq_false hlt
        clear hg hlt hN
        go_upto_region 10 with fail
        apply wp_region_lit
        refine gw_val (by kernel_rfl) (some 25) rfl (.pointer (some ⟨gs, 0, none⟩)) (by kernel_rfl) ?_
        simp only [Act.put, List.setIfInBounds_toArray, List.set_cons_succ, List.set_cons_zero]
        refine gw_val (by kernel_rfl) (some 26) rfl (.pointer (some ⟨gs, 0, none⟩)) (by kernel_rfl) ?_
        simp only [Act.put, List.setIfInBounds_toArray, List.set_cons_succ, List.set_cons_zero]
        refine gw_val (by kernel_rfl) (some 27) rfl (.pointer (some ⟨gs, 1, none⟩)) (by kernel_rfl) ?_
        simp only [Act.put, List.setIfInBounds_toArray, List.set_cons_succ, List.set_cons_zero]
        refine gw_load (by kernel_rfl) (some 28) rfl 3 (.tmp 27) rfl ⟨gs, 1, none⟩ (.int .i64 N) (by kernel_rfl) (hM.num.load rfl (by kernel_rfl)) ?_
        simp only [Act.put, List.setIfInBounds_toArray, List.set_cons_succ, List.set_cons_zero]
        refine gw_val (by kernel_rfl) (some 29) rfl (.slice a n c) (by kernel_rfl) ?_
        simp only [Act.put, List.setIfInBounds_toArray, List.set_cons_succ, List.set_cons_zero]
        refine gw_val (by kernel_rfl) (some 30) rfl (.int .i64 n) (by kernel_rfl) ?_
        simp only [Act.put, List.setIfInBounds_toArray, List.set_cons_succ, List.set_cons_zero]
        refine gw_val (by kernel_rfl) (some 31) rfl (.bool (decide (N < n))) (lt_nat rfl N n (by kernel_rfl) (by kernel_rfl) _) ?_
        simp only [Act.put, List.setIfInBounds_toArray, List.set_cons_succ, List.set_cons_zero]
        rw [hd]
        apply wpList_nil
        have CK1 := CK wr
        have hB := hM.bel
        clear hM hS hO hd CX
        go_upto_region 33 with fail
        apply wp_region_lit
        refine gw_call (by kernel_rfl) (some 117) rfl 9 #[] (.bool true) (fun w' => Below wr.heap.size wr w') (by kernel_rfl) CK1 (fun W2 hW => ?_)
        simp only [Act.put, List.setIfInBounds_toArray, List.set_cons_succ, List.set_cons_zero]
        refine gw_val (by kernel_rfl) (some 2) rfl (.bool true) (by kernel_rfl) ?_
        simp only [Act.put, List.setIfInBounds_toArray, List.set_cons_succ, List.set_cons_zero]
        apply wpList_nil
        have HB := Lib.hid (hB.trans (hW.mono hB.size))
        clear hB hW CK CK1
        go_wp2_with fail
        go_ret
        exact ⟨rfl, HB.out⟩
end Go.Proofs.Ytefinpapkjgpoaa
