/-
  The contract of the reference's Proof.
-/
import Derived.Test.YtbhnbcpllhefgaaDoorMR3
namespace Go.Proofs.YtbhnbcpllhefgaaDoor
open Go.RowKit

/-- A call whose value is not known beforehand. -/
theorem gw_callE {P : Program} {ops : Array Oper} {rest : List Oper} {o : Oper} {a : Act} {w : World} {Q : Exit → Act → World → Prop} (hw : Region.wanted o (yielded ops a.tmps) = true) (d : Option Tmp) (hd : o.dst = d) (f : FuncId) (args : Array Value) (S : Value → World → Prop) (hr : (execOp a.eval o).run P w = .ok (.enter f args) w)
    (hc : Calls P f args w fun e w' => ∃ v, e = .returned v ∧ S v w') (k : ∀ v w', S v w' → wpList P ops Q rest (a.put d v) w') : wpList P ops Q (o :: rest) a w := by
  rw [← hd] at k
  apply wpList_step
  intro K hK
  rw [if_pos hw, Oper.wp, hr]
  refine hc.mono ?_
  rintro e w' ⟨v, rfl, hS⟩
  exact hK _ _ (k v w' hS)
theorem gw_slice_hi {P : Program} {ops : Array Oper} {rest : List Oper} {o : Oper} {a : Act} {w : World} {Q : Exit → Act → World → Prop} (hw : Region.wanted o (yielded ops a.tmps) = true) (d : Option Tmp) (hd : o.dst = d) (ty : TypeId) (x l : Operand) (ho : o.op = .slice ty x (some l) none none) (vx vl v : Value) (hx : a.eval x = vx) (hl : a.eval l = vl)
    (hs : (Instr.sliceAt ty vx (some vl) none none).run P w = .ok v w) (k : wpList P ops Q rest (a.put d v) w) : wpList P ops Q (o :: rest) a w := by
  refine gw_val hw d hd v ?_ k
  unfold execOp
  simp only [ho, hx, hl, Option.map_some, Option.map_none, Sem.run_bind, hs]
  rfl
theorem path_len : ∀ m, ∀ (ls : List (List Int)) (i : Nat), ls.length ≤ m → (pathL ls i).length ≤ m
  | 0, ls, i, h => by rw [pathL_one ls i (by omega)]; simp
  | m + 1, ls, i, h => by
    by_cases h1 : ls.length ≤ 1
    · rw [pathL_one ls i h1]; simp
    · obtain ⟨a, b, -⟩ := halfN_spec ls.length (by omega)
      by_cases hi : i < halfN ls.length
      · rw [pathL_left ls i (by omega) hi, List.length_append]
        have := path_len m (ls.take (halfN ls.length)) i (by rw [List.length_take]; omega)
        simp
        omega
      · rw [pathL_right ls i (by omega) hi, List.length_append]
        have := path_len m (ls.drop (halfN ls.length)) (i - halfN ls.length) (by rw [List.length_drop]; omega)
        simp
        omega

/-- What Proof returns for a leaf. -/
def PrB (w : World) (p : List (List Int)) (e : Ending) (w' : World) : Prop := ∃ v, e = .returned v ∧ (∃ s, v = .tuple #[s, .bool true] ∧ OwnK w' w.heap.size s p) ∧ Below w.heap.size w w'

set_option maxRecDepth 100000 in
set_option maxHeartbeats 4000000 in
theorem refproof_none (n c : Nat) (al : Option Addr) (i : Int) (w : World) (hi : i < 0 ∨ (n : Int) ≤ i) :
    Calls Tryd.prog 17 #[.slice al n c, .int .i64 i] w fun e w' => e = .returned (.tuple #[.slice none 0 0, .bool false]) ∧ w = w' := by
  by_cases h0 : i < 0
  · have hd : decide (i < 0) = true := decide_eq_true h0
    go_enter Tryd.func17, Tryd.ntmps17
    go_wp2_with fail
    go_ret2
    exact ⟨rfl, rfl⟩
  · have hd : decide (i < 0) = false := decide_eq_false h0
    have hd2 : decide ((n : Int) ≤ i) = true := decide_eq_true (by omega)
    go_enter Tryd.func17, Tryd.ntmps17
    go_wp2_with fail
    go_ret2
    exact ⟨rfl, rfl⟩

set_option maxRecDepth 100000 in
set_option maxHeartbeats 4000000 in
theorem refproof_step (ls : List (List Int)) (al : Option Addr) (c i : Nat) (w : World) (hn : ls.length ≤ 1000) (hc : ls.length ≤ c) (hR : RB w al ls) (hi : i < ls.length)
    (ih : ∀ (ls2 : List (List Int)) (al2 : Option Addr) (c2 i2 : Nat) (w2 : World), ls2.length < ls.length → ls2.length ≤ c2 → RB w2 al2 ls2 → i2 < ls2.length → Calls Tryd.prog 17 #[.slice al2 ls2.length c2, .int .i64 i2] w2 (PrB w2 (pathL ls2 i2))) :
    Calls Tryd.prog 17 #[.slice al ls.length c, .int .i64 i] w (PrB w (pathL ls i)) := by
  have hd0 : decide ((i : Int) < 0) = false := decide_eq_false (by omega)
  by_cases h1 : ls.length = 1
  · have hp := pathL_one ls i (by omega)
    rw [hp, h1]
    obtain rfl : i = 0 := by omega
    clear hp ih hR hc hn hi h1
    go_enter Tryd.func17, Tryd.ntmps17
    go_wp2_with fail
    go_ret2
    exact ⟨_, rfl, ⟨_, rfl, OwnK.nil _ _⟩, Below.refl _ _⟩
  · obtain ⟨k1, k2, k3⟩ := halfN_spec ls.length (by omega)
    have htl : (ls.take (halfN ls.length)).length = halfN ls.length := by rw [List.length_take]; omega
    have hdl : (ls.drop (halfN ls.length)).length = ls.length - halfN ls.length := by rw [List.length_drop]
    have CH := fun V => half_any ls.length V (by omega)
    have e1 := fun V => rows_to al ls.length c (halfN ls.length) V (by omega)
    have e2 := fun V => rows_from al ls.length c (halfN ls.length) V (by omega)
    have RL := fun (V : World) (h : RB V al ls) => refroot_any (ls.take (halfN ls.length)) al c V (by omega) (by omega) (h.take _)
    have RR := fun (V : World) (h : RB V al ls) => refroot_any (ls.drop (halfN ls.length)) (fromA al c (halfN ls.length)) (c - halfN ls.length) V (by omega) (by omega) (h.from c _ hc)
    have bL := root_byte (ls.take (halfN ls.length))
    have bR := root_byte (ls.drop (halfN ls.length))
    rw [htl] at RL
    rw [hdl] at RR
    have hd1 : ((ls.length : Int) == 1) = false := by
      have : ((ls.length : Nat) : Int) ≠ 1 := by omega
      exact beq_false_of_ne this
    have hd2 : decide ((ls.length : Int) ≤ (i : Int)) = false := decide_eq_false (by omega)
    by_cases hik : i < halfN ls.length
    · have hp := pathL_left ls i (by omega) hik
      have hpl := path_len 1000 (ls.take (halfN ls.length)) i (by omega)
      have IH := ih (ls.take (halfN ls.length)) al c i w (by omega) (by omega) (hR.take _) (by omega)
      rw [htl] at IH
      have hd3 : decide ((i : Int) < ((halfN ls.length : Nat) : Int)) = true := decide_eq_true (by omega)
      rw [hp]
      generalize pathL (ls.take (halfN ls.length)) i = p at *
      generalize rootL (ls.drop (halfN ls.length)) = R at *
      generalize halfN ls.length = k at *
      have HR := Lib.hid hR
      generalize hl : ls.length = n at *
      clear hl ih hp hR htl hdl RL bL
      go_enter Tryd.func17, Tryd.ntmps17
      go_upto_region 7 with (go_at_call 24; refine (CH _).mono ?_; rintro e w1 ⟨rfl, rfl⟩)
      apply wp_region_lit
      refine gw_val (by kernel_rfl) (some 29) rfl (.slice al n c) (by kernel_rfl) ?_
      simp only [Act.put, List.setIfInBounds_toArray, List.set_cons_succ, List.set_cons_zero]
      refine gw_val (by kernel_rfl) (some 30) rfl (.int .i64 k) (by kernel_rfl) ?_
      simp only [Act.put, List.setIfInBounds_toArray, List.set_cons_succ, List.set_cons_zero]
      refine gw_slice_to (by kernel_rfl) (some 31) rfl 22 (.tmp 29) (.tmp 30) rfl (.slice al n c) (.int .i64 k) (.slice al k c) (by kernel_rfl) (by kernel_rfl) (e1 w) ?_
      simp only [Act.put, List.setIfInBounds_toArray, List.set_cons_succ, List.set_cons_zero]
      refine gw_val (by kernel_rfl) (some 32) rfl (.int .i64 i) (by kernel_rfl) ?_
      simp only [Act.put, List.setIfInBounds_toArray, List.set_cons_succ, List.set_cons_zero]
      refine gw_callE (by kernel_rfl) (some 33) rfl 17 #[.slice al k c, .int .i64 i] (fun v w' => (∃ s, v = .tuple #[s, .bool true] ∧ OwnK w' w.heap.size s p) ∧ Below w.heap.size w w') (by kernel_rfl) IH (fun v1 w1 hq => ?_)
      obtain ⟨⟨s1, rfl, hO1⟩, hb1⟩ := hq
      obtain ⟨a1, c1, rfl, -, -⟩ := hO1.rk
      simp only [Act.put, List.setIfInBounds_toArray, List.set_cons_succ, List.set_cons_zero]
      refine gw_val (by kernel_rfl) (some 28) rfl (.tuple #[.slice a1 p.length c1, .bool true]) (by kernel_rfl) ?_
      simp only [Act.put, List.setIfInBounds_toArray, List.set_cons_succ, List.set_cons_zero]
      refine gw_val (by kernel_rfl) (some 34) rfl (.slice a1 p.length c1) (by kernel_rfl) ?_
      simp only [Act.put, List.setIfInBounds_toArray, List.set_cons_succ, List.set_cons_zero]
      refine gw_val (by kernel_rfl) (some 35) rfl (.bool true) (by kernel_rfl) ?_
      simp only [Act.put, List.setIfInBounds_toArray, List.set_cons_succ, List.set_cons_zero]
      refine gw_val (by kernel_rfl) (some 7) rfl (.slice a1 p.length c1) (by kernel_rfl) ?_
      simp only [Act.put, List.setIfInBounds_toArray, List.set_cons_succ, List.set_cons_zero]
      refine gw_val (by kernel_rfl) (some 8) rfl (.bool true) (by kernel_rfl) ?_
      simp only [Act.put, List.setIfInBounds_toArray, List.set_cons_succ, List.set_cons_zero]
      apply wpList_nil
      go_upto_region 8 with fail
      apply wp_region_lit
      refine gw_val (by kernel_rfl) (some 36) rfl (.slice a1 p.length c1) (by kernel_rfl) ?_
      simp only [Act.put, List.setIfInBounds_toArray, List.set_cons_succ, List.set_cons_zero]
      refine gw_val (by kernel_rfl) (some 37) rfl (.slice al n c) (by kernel_rfl) ?_
      simp only [Act.put, List.setIfInBounds_toArray, List.set_cons_succ, List.set_cons_zero]
      refine gw_val (by kernel_rfl) (some 38) rfl (.int .i64 k) (by kernel_rfl) ?_
      simp only [Act.put, List.setIfInBounds_toArray, List.set_cons_succ, List.set_cons_zero]
      refine gw_slice_hi (by kernel_rfl) (some 39) rfl 22 (.tmp 37) (.tmp 38) rfl (.slice al n c) (.int .i64 k) (.slice (fromA al c k) (n - k) (c - k)) (by kernel_rfl) (by kernel_rfl) (e2 w1) ?_
      simp only [Act.put, List.setIfInBounds_toArray, List.set_cons_succ, List.set_cons_zero]
      refine gw_call (by kernel_rfl) (some 40) rfl 11 #[.slice (fromA al c k) (n - k) (c - k)] (.agg (w8s R)) (Below w1.heap.size w1) (by kernel_rfl) (RR w1 (HR.out.below hb1)) (fun w2 hb2 => ?_)
      have hO2 := hO1.below hb2
      have hb3 := hb1.trans (hb2.mono hb1.size)
      have hO3 : OwnK (w2.alloc (.cells (w8s R) 24)) w.heap.size (.slice a1 p.length c1) p := hO2.below ((Below.refl _ w2).alloc (Nat.le_refl _) _)
      have hb4 := hb3.alloc hb3.size (.cells (w8s R) 24)
      have hbs := build_one R bR.1 w2
      obtain ⟨v2, w3, hap, hO4, -, hb5⟩ := append_key hO3 R bR.1 w2.heap.size (heap_alloc_last w2 _) hb4.size (by omega)
      have hb6 := hb4.trans hb5
      simp only [Act.put, List.setIfInBounds_toArray, List.set_cons_succ, List.set_cons_zero]
      refine gw_build (by kernel_rfl) (some 41) rfl 35 1 #[(0, .tmp 40)] rfl #[(0, .agg (w8s R))] (by kernel_rfl) (.slice (some ⟨w2.heap.size, 0, none⟩) 1 1) (w2.alloc (.cells (w8s R) 24)) hbs ?_
      simp only [Act.put, List.setIfInBounds_toArray, List.set_cons_succ, List.set_cons_zero]
      refine append_step rfl (some 42) rfl 35 rfl (.tmp 36) (.tmp 41) 35 rfl (.slice a1 p.length c1) (.slice (some ⟨w2.heap.size, 0, none⟩) 1 1) v2 w3 (by kernel_rfl) (by kernel_rfl) hap ?_
      simp only [Act.put, List.setIfInBounds_toArray, List.set_cons_succ, List.set_cons_zero]
      refine gw_val (by kernel_rfl) (some 4) rfl (v2) (by kernel_rfl) ?_
      simp only [Act.put, List.setIfInBounds_toArray, List.set_cons_succ, List.set_cons_zero]
      refine gw_val (by kernel_rfl) (some 5) rfl (.bool true) (by kernel_rfl) ?_
      simp only [Act.put, List.setIfInBounds_toArray, List.set_cons_succ, List.set_cons_zero]
      apply wpList_nil
      have HO4 := Lib.hid hO4
      have HB6 := Lib.hid hb6
      clear hO4 hb6 hb5 hap hbs hb4 hO3 hb3 hO2 hb2 hO1 hb1 IH CH e1 e2 RR
      go_wp2_with fail
      go_ret2
      exact ⟨_, rfl, ⟨_, rfl, HO4.out⟩, HB6.out⟩
    · have hp := pathL_right ls i (by omega) hik
      have hpl := path_len 1000 (ls.drop (halfN ls.length)) (i - halfN ls.length) (by omega)
      have IH := ih (ls.drop (halfN ls.length)) (fromA al c (halfN ls.length)) (c - halfN ls.length) (i - halfN ls.length) w (by omega) (by omega) (hR.from c _ hc) (by omega)
      rw [hdl] at IH
      have hd3 : decide ((i : Int) < ((halfN ls.length : Nat) : Int)) = false := decide_eq_false (by omega)
      have hsub : IntKind.i64.wrap ((i : Int) - ((halfN ls.length : Nat) : Int)) = ((i - halfN ls.length : Nat) : Int) := by rw [IntKind.wrap_i64]; omega
      rw [hp]
      generalize pathL (ls.drop (halfN ls.length)) (i - halfN ls.length) = p at *
      generalize rootL (ls.take (halfN ls.length)) = R at *
      generalize halfN ls.length = k at *
      have HR := Lib.hid hR
      generalize hl : ls.length = n at *
      have HSUB := Lib.hid hsub
      clear hl ih hp hR htl hdl RR bR hsub
      go_enter Tryd.func17, Tryd.ntmps17
      go_upto_region 9 with (go_at_call 24; refine (CH _).mono ?_; rintro e w1 ⟨rfl, rfl⟩)
      apply wp_region_lit
      refine gw_val (by kernel_rfl) (some 44) rfl (.slice al n c) (by kernel_rfl) ?_
      simp only [Act.put, List.setIfInBounds_toArray, List.set_cons_succ, List.set_cons_zero]
      refine gw_val (by kernel_rfl) (some 45) rfl (.int .i64 k) (by kernel_rfl) ?_
      simp only [Act.put, List.setIfInBounds_toArray, List.set_cons_succ, List.set_cons_zero]
      refine gw_slice_hi (by kernel_rfl) (some 46) rfl 22 (.tmp 44) (.tmp 45) rfl (.slice al n c) (.int .i64 k) (.slice (fromA al c k) (n - k) (c - k)) (by kernel_rfl) (by kernel_rfl) (e2 w) ?_
      simp only [Act.put, List.setIfInBounds_toArray, List.set_cons_succ, List.set_cons_zero]
      refine gw_val (by kernel_rfl) (some 47) rfl (.int .i64 i) (by kernel_rfl) ?_
      simp only [Act.put, List.setIfInBounds_toArray, List.set_cons_succ, List.set_cons_zero]
      refine gw_val (by kernel_rfl) (some 48) rfl (.int .i64 k) (by kernel_rfl) ?_
      simp only [Act.put, List.setIfInBounds_toArray, List.set_cons_succ, List.set_cons_zero]
      refine gw_val (by kernel_rfl) (some 49) rfl (.int .i64 (IntKind.i64.wrap ((i : Int) - (k : Int)))) (by kernel_rfl) ?_
      simp only [Act.put, List.setIfInBounds_toArray, List.set_cons_succ, List.set_cons_zero]
      rw [HSUB.out]
      refine gw_callE (by kernel_rfl) (some 50) rfl 17 #[.slice (fromA al c k) (n - k) (c - k), .int .i64 (i - k : Nat)] (fun v w' => (∃ s, v = .tuple #[s, .bool true] ∧ OwnK w' w.heap.size s p) ∧ Below w.heap.size w w') (by kernel_rfl) IH (fun v1 w1 hq => ?_)
      obtain ⟨⟨s1, rfl, hO1⟩, hb1⟩ := hq
      obtain ⟨a1, c1, rfl, -, -⟩ := hO1.rk
      simp only [Act.put, List.setIfInBounds_toArray, List.set_cons_succ, List.set_cons_zero]
      refine gw_val (by kernel_rfl) (some 43) rfl (.tuple #[.slice a1 p.length c1, .bool true]) (by kernel_rfl) ?_
      simp only [Act.put, List.setIfInBounds_toArray, List.set_cons_succ, List.set_cons_zero]
      refine gw_val (by kernel_rfl) (some 51) rfl (.slice a1 p.length c1) (by kernel_rfl) ?_
      simp only [Act.put, List.setIfInBounds_toArray, List.set_cons_succ, List.set_cons_zero]
      refine gw_val (by kernel_rfl) (some 52) rfl (.bool true) (by kernel_rfl) ?_
      simp only [Act.put, List.setIfInBounds_toArray, List.set_cons_succ, List.set_cons_zero]
      refine gw_val (by kernel_rfl) (some 9) rfl (.slice a1 p.length c1) (by kernel_rfl) ?_
      simp only [Act.put, List.setIfInBounds_toArray, List.set_cons_succ, List.set_cons_zero]
      refine gw_val (by kernel_rfl) (some 10) rfl (.bool true) (by kernel_rfl) ?_
      simp only [Act.put, List.setIfInBounds_toArray, List.set_cons_succ, List.set_cons_zero]
      apply wpList_nil
      go_upto_region 10 with fail
      apply wp_region_lit
      refine gw_val (by kernel_rfl) (some 53) rfl (.slice a1 p.length c1) (by kernel_rfl) ?_
      simp only [Act.put, List.setIfInBounds_toArray, List.set_cons_succ, List.set_cons_zero]
      refine gw_val (by kernel_rfl) (some 54) rfl (.slice al n c) (by kernel_rfl) ?_
      simp only [Act.put, List.setIfInBounds_toArray, List.set_cons_succ, List.set_cons_zero]
      refine gw_val (by kernel_rfl) (some 55) rfl (.int .i64 k) (by kernel_rfl) ?_
      simp only [Act.put, List.setIfInBounds_toArray, List.set_cons_succ, List.set_cons_zero]
      refine gw_slice_to (by kernel_rfl) (some 56) rfl 22 (.tmp 54) (.tmp 55) rfl (.slice al n c) (.int .i64 k) (.slice al k c) (by kernel_rfl) (by kernel_rfl) (e1 w1) ?_
      simp only [Act.put, List.setIfInBounds_toArray, List.set_cons_succ, List.set_cons_zero]
      refine gw_call (by kernel_rfl) (some 57) rfl 11 #[.slice al k c] (.agg (w8s R)) (Below w1.heap.size w1) (by kernel_rfl) (RL w1 (HR.out.below hb1)) (fun w2 hb2 => ?_)
      have hO2 := hO1.below hb2
      have hb3 := hb1.trans (hb2.mono hb1.size)
      have hO3 : OwnK (w2.alloc (.cells (w8s R) 24)) w.heap.size (.slice a1 p.length c1) p := hO2.below ((Below.refl _ w2).alloc (Nat.le_refl _) _)
      have hb4 := hb3.alloc hb3.size (.cells (w8s R) 24)
      have hbs := build_one R bL.1 w2
      obtain ⟨v2, w3, hap, hO4, -, hb5⟩ := append_key hO3 R bL.1 w2.heap.size (heap_alloc_last w2 _) hb4.size (by omega)
      have hb6 := hb4.trans hb5
      simp only [Act.put, List.setIfInBounds_toArray, List.set_cons_succ, List.set_cons_zero]
      refine gw_build (by kernel_rfl) (some 58) rfl 35 1 #[(0, .tmp 57)] rfl #[(0, .agg (w8s R))] (by kernel_rfl) (.slice (some ⟨w2.heap.size, 0, none⟩) 1 1) (w2.alloc (.cells (w8s R) 24)) hbs ?_
      simp only [Act.put, List.setIfInBounds_toArray, List.set_cons_succ, List.set_cons_zero]
      refine append_step rfl (some 59) rfl 35 rfl (.tmp 53) (.tmp 58) 35 rfl (.slice a1 p.length c1) (.slice (some ⟨w2.heap.size, 0, none⟩) 1 1) v2 w3 (by kernel_rfl) (by kernel_rfl) hap ?_
      simp only [Act.put, List.setIfInBounds_toArray, List.set_cons_succ, List.set_cons_zero]
      refine gw_val (by kernel_rfl) (some 4) rfl (v2) (by kernel_rfl) ?_
      simp only [Act.put, List.setIfInBounds_toArray, List.set_cons_succ, List.set_cons_zero]
      refine gw_val (by kernel_rfl) (some 5) rfl (.bool true) (by kernel_rfl) ?_
      simp only [Act.put, List.setIfInBounds_toArray, List.set_cons_succ, List.set_cons_zero]
      apply wpList_nil
      have HO4 := Lib.hid hO4
      have HB6 := Lib.hid hb6
      clear hO4 hb6 hb5 hap hbs hb4 hO3 hb3 hO2 hb2 hO1 hb1 IH CH e1 e2 RL
      go_wp2_with fail
      go_ret2
      exact ⟨_, rfl, ⟨_, rfl, HO4.out⟩, HB6.out⟩

theorem refproof_any (ls : List (List Int)) (al : Option Addr) (c i : Nat) (w : World) (hn : ls.length ≤ 1000) (hc : ls.length ≤ c) (hR : RB w al ls) (hi : i < ls.length) :
    Calls Tryd.prog 17 #[.slice al ls.length c, .int .i64 i] w (PrB w (pathL ls i)) := by
  have h : ∀ m, ∀ (ls : List (List Int)) (al : Option Addr) (c i : Nat) (w : World), ls.length ≤ m → ls.length ≤ 1000 → ls.length ≤ c → RB w al ls → i < ls.length →
      Calls Tryd.prog 17 #[.slice al ls.length c, .int .i64 i] w (PrB w (pathL ls i)) := by
    intro m
    induction m with
    | zero => exact fun ls al c i w hm hn hc hR hi => by omega
    | succ m ih => exact fun ls al c i w hm hn hc hR hi => refproof_step ls al c i w hn hc hR hi (fun ls2 al2 c2 i2 w2 hl hc2 hR2 hi2 => ih ls2 al2 c2 i2 w2 (by omega) (by omega) hc2 hR2 hi2)
  exact h ls.length ls al c i w (Nat.le_refl _) hn hc hR hi
end Go.Proofs.YtbhnbcpllhefgaaDoor
