/-
  The program's cache: Len, Has, the oldest key.
-/
import Derived.Test.YtjblfpifhbmfoaaQI
import Derived.Test.YtjblfpifhbmfoaaSQC
namespace Go.Proofs.Ytjblfpifhbmfoaa
open Go.RowKit
set_option linter.unusedSimpArgs false
set_option linter.unusedVariables false

theorem look_tuple (x : List Int) (L : List (List Int × Int)) : ∃ v, lookV x L true = .tuple #[.int .i64 v, .bool (foundK x L 0).isSome] := by
  unfold lookV
  cases foundK x L 0 with
  | none => exact ⟨0, rfl⟩
  | some p => exact ⟨p.2, rfl⟩
theorem map_len {w : World} {B : Nat} {L : List (List Int × Int)} (h : Mk w B L) (ty : TypeId) : (Builtin.len_ #[51] ty #[.map (some B)]).run Try.prog w = .ok (.int .i64 L.length) w := by
  obtain ⟨es, c, hb, he⟩ := h
  have hu : (Go.underlying 51).run Try.prog w = .ok (.map 34 3) w := run_underlying (by kernel_rfl) w
  have hl : es.size = L.length := by
    have := congrArg List.length he
    simpa using this
  simp [Builtin.len_, hu, MapKept.run_getObj_map hb, hl, goInt]
theorem ex_mlen {P : Program} {o : Oper} {a : Act} {w : World} (x : Operand) (t : TypeId) (ho : o.op = .call { callee := .builtin .len, args := #[x], argTypes := #[t] }) (vx v : Value) (hx : a.eval x = vx) (hr : (Builtin.len_ #[t] o.type #[vx]).run P w = .ok v w) : (execOp a.eval o).run P w = .ok (.value v) w := by
  unfold execOp
  simp only [ho, resolve, invoke, builtin, Sem.run_bind, Sem.run_pure, Result.andThen_ok, List.map_toArray, List.map_cons, List.map_nil, hx, hr]
section
variable {w : World} {g z : Nat} {d : Cd} {L : List (List Int × Int)} {m : LM} {Sl : Nat → Prop}
theorem Mem.ld0 (h : Mem w g z d L m Sl) : (Instr.loadAt 3 (.pointer (some ⟨g, 0, none⟩))).run Try.prog w = .ok (.int .i64 z) w := h.bx.load (i := 0) rfl (by kernel_rfl)
theorem Mem.ld1 (h : Mem w g z d L m Sl) : (Instr.loadAt 51 (.pointer (some ⟨g, 1, none⟩))).run Try.prog w = .ok (.map (some d.B)) w := h.bx.load (i := 1) rfl (by kernel_rfl)
theorem Mem.ld2 (h : Mem w g z d L m Sl) : (Instr.loadAt 52 (.pointer (some ⟨g, 2, none⟩))).run Try.prog w = .ok (.pointer (some ⟨d.gl, 0, none⟩)) w := h.bx.load (i := 2) rfl (by kernel_rfl)
theorem Mem.ld3 (h : Mem w g z d L m Sl) : (Instr.loadAt 30 (.pointer (some ⟨g, 3, none⟩))).run Try.prog w = .ok (.slice d.ka d.A.length d.kc) w := h.bx.load (i := 3) rfl (by kernel_rfl)
theorem Mem.ld4 (h : Mem w g z d L m Sl) : (Instr.loadAt 22 (.pointer (some ⟨g, 4, none⟩))).run Try.prog w = .ok (.slice d.fa d.F.length d.fc) w := h.bx.load (i := 4) rfl (by kernel_rfl)
end
set_option maxRecDepth 100000 in
set_option maxHeartbeats 4000000 in
theorem q_len {w : World} {g z : Nat} {d : Cd} {L : List (List Int × Int)} {m : LM} {Sl : Nat → Prop} (h : Mem w g z d L m Sl) : Calls Try.prog 20 #[.pointer (some ⟨g, 0, none⟩)] w fun e w' => e = .returned (.int .i64 L.length) ∧ w' = w := by
  have HL := Lib.hid (map_len h.mp)
  have H1 := Lib.hid h.ld1
  clear h
  go_enter Try.func20, Try.ntmps20
  go_upto_region 1 with fail
  apply wp_region_lit
  refine gw_val (by kernel_rfl) (some 3) rfl (.pointer (some ⟨g, 0, none⟩)) (by kernel_rfl) ?_
  simp only [Act.put, List.setIfInBounds_toArray, List.set_cons_succ, List.set_cons_zero]
  refine gw_val (by kernel_rfl) (some 4) rfl (.bool false) (by kernel_rfl) ?_
  simp only [Act.put, List.setIfInBounds_toArray, List.set_cons_succ, List.set_cons_zero]
  apply wpList_nil
  go_upto_region 3 with fail
  apply wp_region_lit
  refine gw_val (by kernel_rfl) (some 5) rfl (.pointer (some ⟨g, 0, none⟩)) (by kernel_rfl) ?_
  simp only [Act.put, List.setIfInBounds_toArray, List.set_cons_succ, List.set_cons_zero]
  refine gw_val (by kernel_rfl) (some 6) rfl (.pointer (some ⟨g, 0, none⟩)) (by kernel_rfl) ?_
  simp only [Act.put, List.setIfInBounds_toArray, List.set_cons_succ, List.set_cons_zero]
  refine gw_val (by kernel_rfl) (some 7) rfl (.pointer (some ⟨g, 1, none⟩)) (by kernel_rfl) ?_
  simp only [Act.put, List.setIfInBounds_toArray, List.set_cons_succ, List.set_cons_zero]
  refine gw_load (by kernel_rfl) (some 8) rfl 51 (.tmp 7) rfl ⟨g, 1, none⟩ (.map (some d.B)) (by kernel_rfl) (H1.out) ?_
  simp only [Act.put, List.setIfInBounds_toArray, List.set_cons_succ, List.set_cons_zero]
  refine gw_val (by kernel_rfl) (some 9) rfl (.int .i64 L.length) (ex_mlen (.tmp 8) 51 rfl (.map (some d.B)) _ (by kernel_rfl) (HL.out _)) ?_
  simp only [Act.put, List.setIfInBounds_toArray, List.set_cons_succ, List.set_cons_zero]
  refine gw_val (by kernel_rfl) (some 2) rfl (.int .i64 L.length) (by kernel_rfl) ?_
  simp only [Act.put, List.setIfInBounds_toArray, List.set_cons_succ, List.set_cons_zero]
  apply wpList_nil
  go_wp2_with fail
  go_ret
  exact ⟨rfl, rfl⟩
set_option maxRecDepth 100000 in
set_option maxHeartbeats 4000000 in
theorem q_has {w : World} {g z : Nat} {d : Cd} {L : List (List Int × Int)} {m : LM} {Sl : Nat → Prop} (h : Mem w g z d L m Sl) (hk : ∀ p ∈ L, p.1.length = 32) {x : List Int} (hx : x.length = 32) (R : Bool) (hR : (foundK x L 0).isSome = R) :
    Calls Try.prog 21 #[.pointer (some ⟨g, 0, none⟩), .agg (w8s x)] w fun e w' => e = .returned (.bool R) ∧ Below w.heap.size w w' := by
  obtain ⟨v, hv⟩ := look_tuple x L
  rw [hR] at hv
  have HM : ∀ U : World, Below w.heap.size w U → (Instr.lookup 51 (.map (some d.B)) (.agg (w8s x)) true).run Try.prog U = .ok (.tuple #[.int .i64 v, .bool R]) U := fun U hU => by
    rw [← hv]
    exact map_look (h.below hU).mp hk x hx true
  have HB := fun U (hU : Below w.heap.size w U) => (h.below hU).ld1
  obtain ⟨hb0, hX0⟩ := box_start x w
  clear hR h hk hv
  go_enter Try.func21, Try.ntmps21
  go_upto_region 1 with fail
  change Code.wp _ _ _ _ (w.alloc (.cells (w8s x) 34))
  generalize w.alloc (.cells (w8s x) 34) = W at *
  generalize hg0 : w.heap.size = g0 at hX0 ⊢
  have HG0 := Lib.hid hg0
  have HB0 := Lib.hid hb0
  clear hg0
  have HBB := Lib.hid HB
  have HMM := Lib.hid HM
  apply wp_region_lit
  refine gw_val (by kernel_rfl) (some 7) rfl (.pointer (some ⟨g, 0, none⟩)) (by kernel_rfl) ?_
  simp only [Act.put, List.setIfInBounds_toArray, List.set_cons_succ, List.set_cons_zero]
  refine gw_val (by kernel_rfl) (some 8) rfl (.bool false) (by kernel_rfl) ?_
  simp only [Act.put, List.setIfInBounds_toArray, List.set_cons_succ, List.set_cons_zero]
  apply wpList_nil
  go_upto_region 3 with fail
  refine wp_region_class (C := fun U => Below w.heap.size w U ∧ Bx U g0 (w8s x) 34) (by kernel_rfl) (by kernel_rfl) (⟨HB0.out.drew, hX0⟩) ?_
  refine gq_val (by kernel_rfl) (some 10) rfl (.pointer (some ⟨g, 0, none⟩)) (fun U hU => by kernel_rfl) ?_
  simp only [Act.put, List.setIfInBounds_toArray, List.set_cons_succ, List.set_cons_zero]
  refine gq_val (by kernel_rfl) (some 11) rfl (.pointer (some ⟨g, 0, none⟩)) (fun U hU => by kernel_rfl) ?_
  simp only [Act.put, List.setIfInBounds_toArray, List.set_cons_succ, List.set_cons_zero]
  refine gq_val (by kernel_rfl) (some 12) rfl (.pointer (some ⟨g, 1, none⟩)) (fun U hU => by kernel_rfl) ?_
  simp only [Act.put, List.setIfInBounds_toArray, List.set_cons_succ, List.set_cons_zero]
  refine gq_load (by kernel_rfl) (some 13) rfl 51 (.tmp 12) rfl ⟨g, 1, none⟩ (.map (some d.B)) (by kernel_rfl) (fun U hU => HBB.out U hU.1) ?_
  simp only [Act.put, List.setIfInBounds_toArray, List.set_cons_succ, List.set_cons_zero]
  refine gq_load (by kernel_rfl) (some 14) rfl 34 (.tmp 3) rfl ⟨g0, 0, none⟩ (.agg (w8s x)) (by kernel_rfl) (fun U hU => load_key hU.2 hx) ?_
  simp only [Act.put, List.setIfInBounds_toArray, List.set_cons_succ, List.set_cons_zero]
  refine gq_val (by kernel_rfl) (some 15) rfl (.tuple #[.int .i64 v, .bool R]) (fun U hU => ex_look 51 (.tmp 13) (.tmp 14) true rfl (.map (some d.B)) (.agg (w8s x)) _ (by kernel_rfl) (by kernel_rfl) (HMM.out U hU.1)) ?_
  simp only [Act.put, List.setIfInBounds_toArray, List.set_cons_succ, List.set_cons_zero]
  refine gq_val (by kernel_rfl) (some 9) rfl (.tuple #[.int .i64 v, .bool R]) (fun U hU => by kernel_rfl) ?_
  simp only [Act.put, List.setIfInBounds_toArray, List.set_cons_succ, List.set_cons_zero]
  refine gq_val (by kernel_rfl) (some 16) rfl (.int .i64 v) (fun U hU => by kernel_rfl) ?_
  simp only [Act.put, List.setIfInBounds_toArray, List.set_cons_succ, List.set_cons_zero]
  refine gq_val (by kernel_rfl) (some 17) rfl (.bool R) (fun U hU => by kernel_rfl) ?_
  simp only [Act.put, List.setIfInBounds_toArray, List.set_cons_succ, List.set_cons_zero]
  refine gq_val (by kernel_rfl) (some 5) rfl (.int .i64 v) (fun U hU => by kernel_rfl) ?_
  simp only [Act.put, List.setIfInBounds_toArray, List.set_cons_succ, List.set_cons_zero]
  refine gq_val (by kernel_rfl) (some 6) rfl (.bool R) (fun U hU => by kernel_rfl) ?_
  simp only [Act.put, List.setIfInBounds_toArray, List.set_cons_succ, List.set_cons_zero]
  apply wpQuiet_nil
  intro V hV
  have HV := Lib.hid hV.1
  clear hV
  go_upto_region 4 with fail
  apply wp_region_lit
  refine gw_val (by kernel_rfl) (some 18) rfl (.bool R) (by kernel_rfl) ?_
  simp only [Act.put, List.setIfInBounds_toArray, List.set_cons_succ, List.set_cons_zero]
  refine gw_val (by kernel_rfl) (some 4) rfl (.bool R) (by kernel_rfl) ?_
  simp only [Act.put, List.setIfInBounds_toArray, List.set_cons_succ, List.set_cons_zero]
  apply wpList_nil
  go_wp2_with fail
  go_ret
  exact ⟨rfl, HV.out⟩
end Go.Proofs.Ytjblfpifhbmfoaa
