/-
  GasPriorities returns true for every input: Priority returns the exact priority of any fee and gas; the arguments read afterwards as before.
  Conditions: none beyond the statement's own.
-/
import Derived.Test.YtkjlbibjdhjocaaRows
import Derived.WalkKit
import Derived.Test.YtkjlbibjdhjocaaKN
import Derived.ProofKit
import Derived.OpenShut
import Derived.ShutString
namespace Go.Proofs.Ytkjlbibjdhjocaa.gasPriorities
open Go.ChangeShapes Go.WideShapes Go.ChangeAt Go.RowKit
open Go.ChangeMaps (open_string shut_string)
set_option linter.unusedVariables false      -- a walk need not use every 'w<i>' (that an integer argument fits its kind)

theorem own : ownKnob Try.prog.godebug = none := by kernel_rfl

/-! ### STEP 1: THE WALK: the Go text returns true. 'Grown w w'': the world has at most new blocks (Derived/RowKit3.lean). Part the cases AHEAD of 'go_enter' where a test parts the walk; take each callee by a contract of your own. -/
theorem neq_u {ρ : Operand → Value} {o : Oper} {x y : Operand} (ho : o.op = .binOp .neq 25 x y 25) (a : Int) (hx : ρ x = .int .u64 a) (hy : ρ y = .int .u64 a) (w : World) : (execOp ρ o).run Try.prog w = .ok (.value (.bool false)) w := by
  unfold execOp
  simp only [ho, hx, hy]
  simp [go_sem]
theorem load_cell {w : World} {t : TypeId} {a : Addr} {v : Value} (h : w.cell? a = some v) (hag : (isAgg t).run Try.prog w = .ok false w) : (Instr.loadAt t (.pointer (some a))).run Try.prog w = .ok v w := by
  simp [Instr.loadAt, Instr.sureAddr, loadVar, hag, run_load, h, Result.andThen]
set_option maxHeartbeats 2000000 in
theorem walk (a0 : Int) (a1 : Int) (a2 : Int) (w0 : (Lit.int .u64 a0).wf = true) (w1 : (Lit.int .u64 a1).wf = true) (w2 : (Lit.int .u8 a2).wf = true) (w : World) :
    Calls Try.prog 5 #[.int .u64 a0, .int .u64 a1, .int .u8 a2] w fun e w' => e = .returned (.bool true) ∧ Grown w w' := by
  have A := word_of_wf w0
  have B' := word_of_wf w1
  have k01 := byte_of_wf w2
  have cK := fun w => known w
  clear w0 w1 w2
  have A5 : W64 (a0 / 4096) := by obtain ⟨h0, h1⟩ := A; exact ⟨by omega, by omega⟩
  have B5 : W64 (a1 / 1099511627776) := by obtain ⟨h0, h1⟩ := B'; exact ⟨by omega, by omega⟩
  obtain ⟨s, hs⟩ : ∃ s, a0 / 2 ^ (a2 % 64).toNat = s := ⟨_, rfl⟩
  have S : W64 s := by rw [← hs]; exact shr_word a0 _ A
  obtain ⟨t, ht⟩ : ∃ t, a1 / 2 ^ (a2 % 64).toNat = t := ⟨_, rfl⟩
  have T : W64 t := by rw [← ht]; exact shr_word a1 _ B'
  go_enter Try.func5, Try.ntmps5
  go_wp2_with fail
  have r0 : Bx (w.alloc (Obj.cells #[.int .u64 a0, .int .u64 a1, .int .u64 a0, .int .u64 t, .int .u64 s, .int .u64 a1, .int .u64 (a0 / 4096), .int .u64 (a1 / 1099511627776)] 29)) w.heap.size #[.int .u64 a0, .int .u64 a1, .int .u64 a0, .int .u64 t, .int .u64 s, .int .u64 a1, .int .u64 (a0 / 4096), .int .u64 (a1 / 1099511627776)] 29 := heap_alloc_last w _
  have g0 : Grown w (w.alloc (Obj.cells #[.int .u64 a0, .int .u64 a1, .int .u64 a0, .int .u64 t, .int .u64 s, .int .u64 a1, .int .u64 (a0 / 4096), .int .u64 (a1 / 1099511627776)] 29)) := (Grown.refl w).alloc _ _
  generalize w.alloc (Obj.cells #[.int .u64 a0, .int .u64 a1, .int .u64 a0, .int .u64 t, .int .u64 s, .int .u64 a1, .int .u64 (a0 / 4096), .int .u64 (a1 / 1099511627776)] 29) = W1 at *
  generalize w.heap.size = B at *
  have R0 := Lib.hid r0
  have G0 := Lib.hid g0
  clear r0 g0 hs ht k01
  go_loopg [31] 4 (fun g sx wx => Bx wx B #[.int .u64 a0, .int .u64 a1, .int .u64 a0, .int .u64 t, .int .u64 s, .int .u64 a1, .int .u64 (a0 / 4096), .int .u64 (a1 / 1099511627776)] 29 ∧ Grown w wx ∧ ∃ i : Int, 0 ≤ i ∧ i ≤ 4 ∧ sx = .int .i64 i ∧ (4 - i).toNat = g)
  case atStart => exact ⟨R0.out, G0.out, 0, by omega, by omega, rfl, rfl⟩
  case round =>
    obtain ⟨hr, hgr, i, hi0, hi3, rfl, hg⟩ := hrel
    have HG := Lib.hid hg
    have HR := Lib.hid hr
    have HGR := Lib.hid hgr
    clear hg R0 G0 hr hgr
    obtain rfl | rfl | rfl | rfl | rfl : i = 0 ∨ i = 1 ∨ i = 2 ∨ i = 3 ∨ i = 4 := by omega
    · have c1 := fun w => gas_prio a0 a1 w A B'
      have c2 := fun w => ref_prio a0 a1 w A B'
      have h0 := (cell_of_row _ _ 0 _ _ _ HR.out).trans (rfl : _ = some (Value.int .u64 a0))
      have h1 := (cell_of_row _ _ 1 _ _ _ HR.out).trans (rfl : _ = some (Value.int .u64 a1))
      generalize prioV a0 a1 = v at *
      go_upto_region 4 with fail
      have hc0 : (wr.alloc (Obj.cells #[.int .u64 a0, .int .u64 a1] 29)).cell? ⟨wr.heap.size, 0, none⟩ = some (.int .u64 a0) := cell_of_row _ _ 0 _ _ _ (heap_alloc_last wr _)
      have hc1 : (wr.alloc (Obj.cells #[.int .u64 a0, .int .u64 a1] 29)).cell? ⟨wr.heap.size, 1, none⟩ = some (.int .u64 a1) := cell_of_row _ _ 1 _ _ _ (heap_alloc_last wr _)
      have hb : Below wr.heap.size wr (wr.alloc (Obj.cells #[.int .u64 a0, .int .u64 a1] 29)) := (Below.refl _ _).alloc (Nat.le_refl _) _
      have hg : Grown w (wr.alloc (Obj.cells #[.int .u64 a0, .int .u64 a1] 29)) := HGR.out.alloc _ _
      generalize wr.alloc (Obj.cells #[.int .u64 a0, .int .u64 a1] 29) = V at *
      have HB := Lib.hid hb
      have HGV := Lib.hid hg
      clear hb hg
      obtain ⟨G8, hG8⟩ : ∃ G8, G8 = wr.heap.size := ⟨_, rfl⟩
      rw [← hG8] at hc0 hc1 ⊢
      have HG8 := Lib.hid hG8
      clear hG8
      refine wp_region_class (C := fun U => ∃ n, U = V.drewN n) (by kernel_rfl) (by kernel_rfl) (⟨1, rfl⟩) ?_
      refine gq_val (by kernel_rfl) (some 35) rfl (.pointer (some ⟨G8, 0, none⟩)) (fun U hU => by kernel_rfl) ?_
      simp only [pu1, pu2, pu3, pu4]
      refine gq_load (by kernel_rfl) (some 36) rfl 25 (.tmp 35) rfl ⟨G8, 0, none⟩ (.int .u64 a0) (by kernel_rfl) (fun U hU => by obtain ⟨n, rfl⟩ := hU; exact load_cell (hc0 : (V.drewN n).cell? _ = _) (by kernel_rfl)) ?_
      simp only [pu1, pu2, pu3, pu4]
      refine gq_val (by kernel_rfl) (some 37) rfl (.pointer (some ⟨G8, 1, none⟩)) (fun U hU => by kernel_rfl) ?_
      simp only [pu1, pu2, pu3, pu4]
      refine gq_load (by kernel_rfl) (some 38) rfl 25 (.tmp 37) rfl ⟨G8, 1, none⟩ (.int .u64 a1) (by kernel_rfl) (fun U hU => by obtain ⟨n, rfl⟩ := hU; exact load_cell (hc1 : (V.drewN n).cell? _ = _) (by kernel_rfl)) ?_
      simp only [pu1, pu2, pu3, pu4]
      refine gq_call (by kernel_rfl) (some 39) rfl 14 #[.int .u64 a0, .int .u64 a1] (.int .u64 v) (fun U hU => by kernel_rfl) (fun U hU => (c1 U).mono fun e w2 q => by obtain ⟨n, rfl⟩ := hU; obtain ⟨q1, m, q2⟩ := q; exact ⟨q1, n + m, by rw [q2]; simp only [World.drewN, Nat.add_assoc]⟩) ?_
      simp only [pu1, pu2, pu3, pu4]
      refine gq_val (by kernel_rfl) (some 40) rfl (.pointer (some ⟨G8, 0, none⟩)) (fun U hU => by kernel_rfl) ?_
      simp only [pu1, pu2, pu3, pu4]
      refine gq_load (by kernel_rfl) (some 41) rfl 25 (.tmp 40) rfl ⟨G8, 0, none⟩ (.int .u64 a0) (by kernel_rfl) (fun U hU => by obtain ⟨n, rfl⟩ := hU; exact load_cell (hc0 : (V.drewN n).cell? _ = _) (by kernel_rfl)) ?_
      simp only [pu1, pu2, pu3, pu4]
      refine gq_val (by kernel_rfl) (some 42) rfl (.pointer (some ⟨G8, 1, none⟩)) (fun U hU => by kernel_rfl) ?_
      simp only [pu1, pu2, pu3, pu4]
      refine gq_load (by kernel_rfl) (some 43) rfl 25 (.tmp 42) rfl ⟨G8, 1, none⟩ (.int .u64 a1) (by kernel_rfl) (fun U hU => by obtain ⟨n, rfl⟩ := hU; exact load_cell (hc1 : (V.drewN n).cell? _ = _) (by kernel_rfl)) ?_
      simp only [pu1, pu2, pu3, pu4]
      refine gq_call (by kernel_rfl) (some 44) rfl 15 #[.int .u64 a0, .int .u64 a1] (.int .u64 v) (fun U hU => by kernel_rfl) (fun U hU => (c2 U).mono fun e w2 q => ⟨q.1, by rw [← q.2]; exact hU⟩) ?_
      simp only [pu1, pu2, pu3, pu4]
      refine gq_val (by kernel_rfl) (some 45) rfl (.bool false) (fun U hU => neq_u rfl v (by kernel_rfl) (by kernel_rfl) _) ?_
      simp only [pu1, pu2, pu3, pu4]
      apply wpQuiet_nil
      intro U hU
      obtain ⟨n, rfl⟩ := hU
      clear hc0 hc1 c1 c2
      go_wp2_with fail
      go_roundg 3
      case measure => have := HG.out; omega
      case rel => exact ⟨HR.out.below HR.out.lt (below_drewN HB.out n), grown_drewN HGV.out n, 1, by omega, by omega, by first | rfl | go_num, by omega⟩
    · have c1 := fun w => gas_prio a0 t w A T
      have c2 := fun w => ref_prio a0 t w A T
      have h0 := (cell_of_row _ _ 2 _ _ _ HR.out).trans (rfl : _ = some (Value.int .u64 a0))
      have h1 := (cell_of_row _ _ 3 _ _ _ HR.out).trans (rfl : _ = some (Value.int .u64 t))
      generalize prioV a0 t = v at *
      go_upto_region 4 with fail
      have hc0 : (wr.alloc (Obj.cells #[.int .u64 a0, .int .u64 t] 29)).cell? ⟨wr.heap.size, 0, none⟩ = some (.int .u64 a0) := cell_of_row _ _ 0 _ _ _ (heap_alloc_last wr _)
      have hc1 : (wr.alloc (Obj.cells #[.int .u64 a0, .int .u64 t] 29)).cell? ⟨wr.heap.size, 1, none⟩ = some (.int .u64 t) := cell_of_row _ _ 1 _ _ _ (heap_alloc_last wr _)
      have hb : Below wr.heap.size wr (wr.alloc (Obj.cells #[.int .u64 a0, .int .u64 t] 29)) := (Below.refl _ _).alloc (Nat.le_refl _) _
      have hg : Grown w (wr.alloc (Obj.cells #[.int .u64 a0, .int .u64 t] 29)) := HGR.out.alloc _ _
      generalize wr.alloc (Obj.cells #[.int .u64 a0, .int .u64 t] 29) = V at *
      have HB := Lib.hid hb
      have HGV := Lib.hid hg
      clear hb hg
      obtain ⟨G8, hG8⟩ : ∃ G8, G8 = wr.heap.size := ⟨_, rfl⟩
      rw [← hG8] at hc0 hc1 ⊢
      have HG8 := Lib.hid hG8
      clear hG8
      refine wp_region_class (C := fun U => ∃ n, U = V.drewN n) (by kernel_rfl) (by kernel_rfl) (⟨1, rfl⟩) ?_
      refine gq_val (by kernel_rfl) (some 35) rfl (.pointer (some ⟨G8, 0, none⟩)) (fun U hU => by kernel_rfl) ?_
      simp only [pu1, pu2, pu3, pu4]
      refine gq_load (by kernel_rfl) (some 36) rfl 25 (.tmp 35) rfl ⟨G8, 0, none⟩ (.int .u64 a0) (by kernel_rfl) (fun U hU => by obtain ⟨n, rfl⟩ := hU; exact load_cell (hc0 : (V.drewN n).cell? _ = _) (by kernel_rfl)) ?_
      simp only [pu1, pu2, pu3, pu4]
      refine gq_val (by kernel_rfl) (some 37) rfl (.pointer (some ⟨G8, 1, none⟩)) (fun U hU => by kernel_rfl) ?_
      simp only [pu1, pu2, pu3, pu4]
      refine gq_load (by kernel_rfl) (some 38) rfl 25 (.tmp 37) rfl ⟨G8, 1, none⟩ (.int .u64 t) (by kernel_rfl) (fun U hU => by obtain ⟨n, rfl⟩ := hU; exact load_cell (hc1 : (V.drewN n).cell? _ = _) (by kernel_rfl)) ?_
      simp only [pu1, pu2, pu3, pu4]
      refine gq_call (by kernel_rfl) (some 39) rfl 14 #[.int .u64 a0, .int .u64 t] (.int .u64 v) (fun U hU => by kernel_rfl) (fun U hU => (c1 U).mono fun e w2 q => by obtain ⟨n, rfl⟩ := hU; obtain ⟨q1, m, q2⟩ := q; exact ⟨q1, n + m, by rw [q2]; simp only [World.drewN, Nat.add_assoc]⟩) ?_
      simp only [pu1, pu2, pu3, pu4]
      refine gq_val (by kernel_rfl) (some 40) rfl (.pointer (some ⟨G8, 0, none⟩)) (fun U hU => by kernel_rfl) ?_
      simp only [pu1, pu2, pu3, pu4]
      refine gq_load (by kernel_rfl) (some 41) rfl 25 (.tmp 40) rfl ⟨G8, 0, none⟩ (.int .u64 a0) (by kernel_rfl) (fun U hU => by obtain ⟨n, rfl⟩ := hU; exact load_cell (hc0 : (V.drewN n).cell? _ = _) (by kernel_rfl)) ?_
      simp only [pu1, pu2, pu3, pu4]
      refine gq_val (by kernel_rfl) (some 42) rfl (.pointer (some ⟨G8, 1, none⟩)) (fun U hU => by kernel_rfl) ?_
      simp only [pu1, pu2, pu3, pu4]
      refine gq_load (by kernel_rfl) (some 43) rfl 25 (.tmp 42) rfl ⟨G8, 1, none⟩ (.int .u64 t) (by kernel_rfl) (fun U hU => by obtain ⟨n, rfl⟩ := hU; exact load_cell (hc1 : (V.drewN n).cell? _ = _) (by kernel_rfl)) ?_
      simp only [pu1, pu2, pu3, pu4]
      refine gq_call (by kernel_rfl) (some 44) rfl 15 #[.int .u64 a0, .int .u64 t] (.int .u64 v) (fun U hU => by kernel_rfl) (fun U hU => (c2 U).mono fun e w2 q => ⟨q.1, by rw [← q.2]; exact hU⟩) ?_
      simp only [pu1, pu2, pu3, pu4]
      refine gq_val (by kernel_rfl) (some 45) rfl (.bool false) (fun U hU => neq_u rfl v (by kernel_rfl) (by kernel_rfl) _) ?_
      simp only [pu1, pu2, pu3, pu4]
      apply wpQuiet_nil
      intro U hU
      obtain ⟨n, rfl⟩ := hU
      clear hc0 hc1 c1 c2
      go_wp2_with fail
      go_roundg 2
      case measure => have := HG.out; omega
      case rel => exact ⟨HR.out.below HR.out.lt (below_drewN HB.out n), grown_drewN HGV.out n, 2, by omega, by omega, by first | rfl | go_num, by omega⟩
    · have c1 := fun w => gas_prio s a1 w S B'
      have c2 := fun w => ref_prio s a1 w S B'
      have h0 := (cell_of_row _ _ 4 _ _ _ HR.out).trans (rfl : _ = some (Value.int .u64 s))
      have h1 := (cell_of_row _ _ 5 _ _ _ HR.out).trans (rfl : _ = some (Value.int .u64 a1))
      generalize prioV s a1 = v at *
      go_upto_region 4 with fail
      have hc0 : (wr.alloc (Obj.cells #[.int .u64 s, .int .u64 a1] 29)).cell? ⟨wr.heap.size, 0, none⟩ = some (.int .u64 s) := cell_of_row _ _ 0 _ _ _ (heap_alloc_last wr _)
      have hc1 : (wr.alloc (Obj.cells #[.int .u64 s, .int .u64 a1] 29)).cell? ⟨wr.heap.size, 1, none⟩ = some (.int .u64 a1) := cell_of_row _ _ 1 _ _ _ (heap_alloc_last wr _)
      have hb : Below wr.heap.size wr (wr.alloc (Obj.cells #[.int .u64 s, .int .u64 a1] 29)) := (Below.refl _ _).alloc (Nat.le_refl _) _
      have hg : Grown w (wr.alloc (Obj.cells #[.int .u64 s, .int .u64 a1] 29)) := HGR.out.alloc _ _
      generalize wr.alloc (Obj.cells #[.int .u64 s, .int .u64 a1] 29) = V at *
      have HB := Lib.hid hb
      have HGV := Lib.hid hg
      clear hb hg
      obtain ⟨G8, hG8⟩ : ∃ G8, G8 = wr.heap.size := ⟨_, rfl⟩
      rw [← hG8] at hc0 hc1 ⊢
      have HG8 := Lib.hid hG8
      clear hG8
      refine wp_region_class (C := fun U => ∃ n, U = V.drewN n) (by kernel_rfl) (by kernel_rfl) (⟨1, rfl⟩) ?_
      refine gq_val (by kernel_rfl) (some 35) rfl (.pointer (some ⟨G8, 0, none⟩)) (fun U hU => by kernel_rfl) ?_
      simp only [pu1, pu2, pu3, pu4]
      refine gq_load (by kernel_rfl) (some 36) rfl 25 (.tmp 35) rfl ⟨G8, 0, none⟩ (.int .u64 s) (by kernel_rfl) (fun U hU => by obtain ⟨n, rfl⟩ := hU; exact load_cell (hc0 : (V.drewN n).cell? _ = _) (by kernel_rfl)) ?_
      simp only [pu1, pu2, pu3, pu4]
      refine gq_val (by kernel_rfl) (some 37) rfl (.pointer (some ⟨G8, 1, none⟩)) (fun U hU => by kernel_rfl) ?_
      simp only [pu1, pu2, pu3, pu4]
      refine gq_load (by kernel_rfl) (some 38) rfl 25 (.tmp 37) rfl ⟨G8, 1, none⟩ (.int .u64 a1) (by kernel_rfl) (fun U hU => by obtain ⟨n, rfl⟩ := hU; exact load_cell (hc1 : (V.drewN n).cell? _ = _) (by kernel_rfl)) ?_
      simp only [pu1, pu2, pu3, pu4]
      refine gq_call (by kernel_rfl) (some 39) rfl 14 #[.int .u64 s, .int .u64 a1] (.int .u64 v) (fun U hU => by kernel_rfl) (fun U hU => (c1 U).mono fun e w2 q => by obtain ⟨n, rfl⟩ := hU; obtain ⟨q1, m, q2⟩ := q; exact ⟨q1, n + m, by rw [q2]; simp only [World.drewN, Nat.add_assoc]⟩) ?_
      simp only [pu1, pu2, pu3, pu4]
      refine gq_val (by kernel_rfl) (some 40) rfl (.pointer (some ⟨G8, 0, none⟩)) (fun U hU => by kernel_rfl) ?_
      simp only [pu1, pu2, pu3, pu4]
      refine gq_load (by kernel_rfl) (some 41) rfl 25 (.tmp 40) rfl ⟨G8, 0, none⟩ (.int .u64 s) (by kernel_rfl) (fun U hU => by obtain ⟨n, rfl⟩ := hU; exact load_cell (hc0 : (V.drewN n).cell? _ = _) (by kernel_rfl)) ?_
      simp only [pu1, pu2, pu3, pu4]
      refine gq_val (by kernel_rfl) (some 42) rfl (.pointer (some ⟨G8, 1, none⟩)) (fun U hU => by kernel_rfl) ?_
      simp only [pu1, pu2, pu3, pu4]
      refine gq_load (by kernel_rfl) (some 43) rfl 25 (.tmp 42) rfl ⟨G8, 1, none⟩ (.int .u64 a1) (by kernel_rfl) (fun U hU => by obtain ⟨n, rfl⟩ := hU; exact load_cell (hc1 : (V.drewN n).cell? _ = _) (by kernel_rfl)) ?_
      simp only [pu1, pu2, pu3, pu4]
      refine gq_call (by kernel_rfl) (some 44) rfl 15 #[.int .u64 s, .int .u64 a1] (.int .u64 v) (fun U hU => by kernel_rfl) (fun U hU => (c2 U).mono fun e w2 q => ⟨q.1, by rw [← q.2]; exact hU⟩) ?_
      simp only [pu1, pu2, pu3, pu4]
      refine gq_val (by kernel_rfl) (some 45) rfl (.bool false) (fun U hU => neq_u rfl v (by kernel_rfl) (by kernel_rfl) _) ?_
      simp only [pu1, pu2, pu3, pu4]
      apply wpQuiet_nil
      intro U hU
      obtain ⟨n, rfl⟩ := hU
      clear hc0 hc1 c1 c2
      go_wp2_with fail
      go_roundg 1
      case measure => have := HG.out; omega
      case rel => exact ⟨HR.out.below HR.out.lt (below_drewN HB.out n), grown_drewN HGV.out n, 3, by omega, by omega, by first | rfl | go_num, by omega⟩
    · have c1 := fun w => gas_prio (a0 / 4096) (a1 / 1099511627776) w A5 B5
      have c2 := fun w => ref_prio (a0 / 4096) (a1 / 1099511627776) w A5 B5
      have h0 := (cell_of_row _ _ 6 _ _ _ HR.out).trans (rfl : _ = some (Value.int .u64 (a0 / 4096)))
      have h1 := (cell_of_row _ _ 7 _ _ _ HR.out).trans (rfl : _ = some (Value.int .u64 (a1 / 1099511627776)))
      generalize prioV (a0 / 4096) (a1 / 1099511627776) = v at *
      go_upto_region 4 with fail
      have hc0 : (wr.alloc (Obj.cells #[.int .u64 (a0 / 4096), .int .u64 (a1 / 1099511627776)] 29)).cell? ⟨wr.heap.size, 0, none⟩ = some (.int .u64 (a0 / 4096)) := cell_of_row _ _ 0 _ _ _ (heap_alloc_last wr _)
      have hc1 : (wr.alloc (Obj.cells #[.int .u64 (a0 / 4096), .int .u64 (a1 / 1099511627776)] 29)).cell? ⟨wr.heap.size, 1, none⟩ = some (.int .u64 (a1 / 1099511627776)) := cell_of_row _ _ 1 _ _ _ (heap_alloc_last wr _)
      have hb : Below wr.heap.size wr (wr.alloc (Obj.cells #[.int .u64 (a0 / 4096), .int .u64 (a1 / 1099511627776)] 29)) := (Below.refl _ _).alloc (Nat.le_refl _) _
      have hg : Grown w (wr.alloc (Obj.cells #[.int .u64 (a0 / 4096), .int .u64 (a1 / 1099511627776)] 29)) := HGR.out.alloc _ _
      generalize wr.alloc (Obj.cells #[.int .u64 (a0 / 4096), .int .u64 (a1 / 1099511627776)] 29) = V at *
      have HB := Lib.hid hb
      have HGV := Lib.hid hg
      clear hb hg
      obtain ⟨G8, hG8⟩ : ∃ G8, G8 = wr.heap.size := ⟨_, rfl⟩
      rw [← hG8] at hc0 hc1 ⊢
      have HG8 := Lib.hid hG8
      clear hG8
      refine wp_region_class (C := fun U => ∃ n, U = V.drewN n) (by kernel_rfl) (by kernel_rfl) (⟨1, rfl⟩) ?_
      refine gq_val (by kernel_rfl) (some 35) rfl (.pointer (some ⟨G8, 0, none⟩)) (fun U hU => by kernel_rfl) ?_
      simp only [pu1, pu2, pu3, pu4]
      refine gq_load (by kernel_rfl) (some 36) rfl 25 (.tmp 35) rfl ⟨G8, 0, none⟩ (.int .u64 (a0 / 4096)) (by kernel_rfl) (fun U hU => by obtain ⟨n, rfl⟩ := hU; exact load_cell (hc0 : (V.drewN n).cell? _ = _) (by kernel_rfl)) ?_
      simp only [pu1, pu2, pu3, pu4]
      refine gq_val (by kernel_rfl) (some 37) rfl (.pointer (some ⟨G8, 1, none⟩)) (fun U hU => by kernel_rfl) ?_
      simp only [pu1, pu2, pu3, pu4]
      refine gq_load (by kernel_rfl) (some 38) rfl 25 (.tmp 37) rfl ⟨G8, 1, none⟩ (.int .u64 (a1 / 1099511627776)) (by kernel_rfl) (fun U hU => by obtain ⟨n, rfl⟩ := hU; exact load_cell (hc1 : (V.drewN n).cell? _ = _) (by kernel_rfl)) ?_
      simp only [pu1, pu2, pu3, pu4]
      refine gq_call (by kernel_rfl) (some 39) rfl 14 #[.int .u64 (a0 / 4096), .int .u64 (a1 / 1099511627776)] (.int .u64 v) (fun U hU => by kernel_rfl) (fun U hU => (c1 U).mono fun e w2 q => by obtain ⟨n, rfl⟩ := hU; obtain ⟨q1, m, q2⟩ := q; exact ⟨q1, n + m, by rw [q2]; simp only [World.drewN, Nat.add_assoc]⟩) ?_
      simp only [pu1, pu2, pu3, pu4]
      refine gq_val (by kernel_rfl) (some 40) rfl (.pointer (some ⟨G8, 0, none⟩)) (fun U hU => by kernel_rfl) ?_
      simp only [pu1, pu2, pu3, pu4]
      refine gq_load (by kernel_rfl) (some 41) rfl 25 (.tmp 40) rfl ⟨G8, 0, none⟩ (.int .u64 (a0 / 4096)) (by kernel_rfl) (fun U hU => by obtain ⟨n, rfl⟩ := hU; exact load_cell (hc0 : (V.drewN n).cell? _ = _) (by kernel_rfl)) ?_
      simp only [pu1, pu2, pu3, pu4]
      refine gq_val (by kernel_rfl) (some 42) rfl (.pointer (some ⟨G8, 1, none⟩)) (fun U hU => by kernel_rfl) ?_
      simp only [pu1, pu2, pu3, pu4]
      refine gq_load (by kernel_rfl) (some 43) rfl 25 (.tmp 42) rfl ⟨G8, 1, none⟩ (.int .u64 (a1 / 1099511627776)) (by kernel_rfl) (fun U hU => by obtain ⟨n, rfl⟩ := hU; exact load_cell (hc1 : (V.drewN n).cell? _ = _) (by kernel_rfl)) ?_
      simp only [pu1, pu2, pu3, pu4]
      refine gq_call (by kernel_rfl) (some 44) rfl 15 #[.int .u64 (a0 / 4096), .int .u64 (a1 / 1099511627776)] (.int .u64 v) (fun U hU => by kernel_rfl) (fun U hU => (c2 U).mono fun e w2 q => ⟨q.1, by rw [← q.2]; exact hU⟩) ?_
      simp only [pu1, pu2, pu3, pu4]
      refine gq_val (by kernel_rfl) (some 45) rfl (.bool false) (fun U hU => neq_u rfl v (by kernel_rfl) (by kernel_rfl) _) ?_
      simp only [pu1, pu2, pu3, pu4]
      apply wpQuiet_nil
      intro U hU
      obtain ⟨n, rfl⟩ := hU
      clear hc0 hc1 c1 c2
      go_wp2_with fail
      go_roundg 0
      case measure => have := HG.out; omega
      case rel => exact ⟨HR.out.below HR.out.lt (below_drewN HB.out n), grown_drewN HGV.out n, 4, by omega, by omega, by first | rfl | go_num, by omega⟩
    · go_wp2_with fail
      refine (cK _).mono ?_
      rintro e w' ⟨rfl, n4, rfl⟩
      go_wp2
      go_ret
      exact ⟨rfl, grown_drewN HGR.out n4⟩

/-! ### THE ROW's STEP: WRITTEN OUT: LEAVE IT -/
set_option maxRecDepth 100000 in
theorem lifted (os : Os) (started : os.Started) (H : Type) (enc : TypeId × Value → H) :
    ReturnsInHanded {} Try.checked os 5 .any (Rows.gasPrioritiesSpec.pre6 enc Try.prog Try.f5 Rows.gasPrioritiesRow.domain false) (Rows.gasPrioritiesSpec.post enc Try.prog Try.f5 false true false false) := by
  refine returnsInHanded_of_change (C := Try.checked) own started (by kernel_rfl) Try.func5
    (ChangeSpec.witness6 (enc := enc) (C := Try.checked) false ⟨#[], #[.int .u64 0, .int .u64 0, .int .u8 0], []⟩ 8 (by kernel_rfl) (by kernel_rfl) (by kernel_rfl) (by kernel_rfl)) ?_
  intro W base args ds gs before hval0 hW hcnd _
  have hval : ∀ (j : Nat) t v, Try.f5.params[j]? = some t → args[j]? = some v → Value.okWide Try.prog W .any base t v := hval0
  have hW' := hW
  obtain ⟨p, q, hA0, hV, rfl, hfz, hnd⟩ := hW
  have hA : DataW.TrodAll enc Try.prog W 0 (fun _ => true) true Try.f5.params.toList args.toList ds p := hA0
  rw [Try.params5] at hA hval
  obtain ⟨v0, vs0, d0, ds0, p0, q0, hargs, rfl, rfl, h0, r0⟩ := trodAll_cons hA
  obtain ⟨v1, vs1, d1, ds1, p1, q1, rfl, rfl, rfl, h1, r1⟩ := trodAll_cons r0
  obtain ⟨v2, vs2, d2, ds2, p2, q2, rfl, rfl, rfl, h2, r2⟩ := trodAll_cons r1
  obtain ⟨rfl, rfl, rfl⟩ := trodAll_nil r2
  obtain rfl : args = #[v0, v1, v2] := by cases args; simp_all
  obtain ⟨rfl, rfl⟩ := trodVars_none hV
  obtain ⟨a0, rfl, rfl, rfl, w0⟩ := open_int Try.underlying25 (hval 0 25 v0 rfl rfl) h0
  obtain ⟨a1, rfl, rfl, rfl, w1⟩ := open_int Try.underlying25 (hval 1 25 v1 rfl rfl) h1
  obtain ⟨a2, rfl, rfl, rfl, w2⟩ := open_int Try.underlying5 (hval 2 5 v2 rfl rfl) h2
  clear hA0 hval0
  simp only [List.append_nil] at hW'
  refine (walk a0 a1 a2 w0 w1 w2 W).mono fun e W' ⟨he, hg⟩ => ?_
  subst he
  exact ⟨_, rfl, post_of_same (pa := []) (pv := []) hW' (fun _ _ _ => (trodAll_cons_mk (shut_bool Try.underlying4 _) trodAll_mk0)) (fun sp _ => (trodAll_cons_mk (shut_int Try.underlying25 w0) (trodAll_cons_mk (shut_int Try.underlying25 w1) (trodAll_cons_mk (shut_int Try.underlying5 w2) trodAll_mk0)))) (fun _ _ => rfl) rfl
    (hg.frame _) hg.2.1 (ok_one (by kernel_rfl) rfl (okWide_bool_mk Try.underlying4 _))⟩

theorem over : Rows.gasPrioritiesRow.holds Try.pinned (OpenSpec.ofChange Rows.gasPrioritiesSpec) :=
  OpenClaim.holds_of_wide 5 Try.f5 rfl rfl rfl rfl rfl rfl rfl ⟨rfl, rfl, rfl, rfl, rfl⟩ rfl rfl rfl rfl rfl (by kernel_rfl) Try.func5 (by kernel_rfl)
    (of_decide_eq_true (by kernel_rfl)) (by unfold Func.isWrapper; first | (rw [if_pos (by decide +kernel)]; kernel_rfl) | (rw [if_neg (by decide +kernel)]; exact ⟨rfl, rfl⟩))
    (fun os started H enc _ => lifted os started H enc)

/-- THE STATEMENT -/
theorem proved : Rows.GasPrioritiesSaid :=
  over
#print axioms proved
end Go.Proofs.Ytkjlbibjdhjocaa.gasPriorities
