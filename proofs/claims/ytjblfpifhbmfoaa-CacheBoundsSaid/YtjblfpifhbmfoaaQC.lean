/-
  The program's cache: New, Reset, a nil cache; and all its functions meet what they are held to.
-/
import Derived.Test.YtjblfpifhbmfoaaQK
namespace Go.Proofs.Ytjblfpifhbmfoaa
open Go.RowKit
set_option linter.unusedSimpArgs false
set_option linter.unusedVariables false

/-- A new cache. -/
def Nw (w : World) (z : Nat) (e : Ending) (w' : World) : Prop := ∃ g B gl Sl, e = .returned (.pointer (some ⟨g, 0, none⟩)) ∧ Mem w' g z ⟨B, gl, none, 0, none, 0, [], []⟩ [] LM.empty Sl ∧ (∀ k, Sc g ⟨B, gl, none, 0, none, 0, [], []⟩ Sl k → w.heap.size ≤ k) ∧ Below w.heap.size w w'
theorem capN_alt (size : Int) : min (max size 0) 1024 = ((capN size).toNat : Int) := by
  unfold capN
  omega
theorem capN_same (z : Nat) (h : z ≤ 1024) : (capN (z : Int)).toNat = z := by
  unfold capN
  omega
theorem ex_build {P : Program} {o : Oper} {a : Act} {w : World} (ty : TypeId) (parts : Array (Nat × Operand)) (ho : o.op = .build ty parts) (vs : Array (Nat × Value)) (hp : (parts.map fun (i, x) => (i, a.eval x)) = vs) (v : Value) (hr : (Instr.build ty vs).run P w = .ok v w) : (execOp a.eval o).run P w = .ok (.value v) w := by
  unfold execOp
  simp only [ho, Sem.run_bind, hp, hr]
  rfl
theorem load_all {w : World} {g z : Nat} {d : Cd} (h : Bx w g (hdc z d) 55) : (Instr.loadAt 55 (.pointer (some ⟨g, 0, none⟩))).run Try.prog w = .ok (.agg (hdc z d)) w := by
  have hu : ∃ D, Try.prog.underlying 55 = some D ∧ D.isRow = true := ⟨_, rfl, rfl⟩
  obtain ⟨D, h1, h2⟩ := hu
  exact run_loadAt_mid w g 0 55 (hdc z d).toList D (fun j v hv => by
    rw [Nat.zero_add, cell_of_row w g _ _ _ (0, 0) h]
    simpa using hv) h1 h2 (by
    show _ = some 5
    kernel_rfl)
set_option maxRecDepth 100000 in
set_option maxHeartbeats 4000000 in
theorem q_new (w : World) (size : Int) (z : Nat) (hz : min (max size 0) 1024 = (z : Int)) : Calls Try.prog 11 #[.int .i64 size] w fun e w' => Nw w z e w' := by
  have hbm : Below w.heap.size w (w.alloc (.map #[] 0)) := (Below.refl _ w).alloc (Nat.le_refl _) _
  have hmk := Mk.new w
  have HW := Lib.hid hz
  have CL := list_new (w.alloc (.map #[] 0))
  have hsz : (w.alloc (.map #[] 0)).heap.size = w.heap.size + 1 := by simp
  clear hz
  go_enter Try.func11, Try.ntmps11
  go_upto_region 1 with fail
  apply wp_region_lit
  refine gw_val (by kernel_rfl) (some 3) rfl (.int .i64 size) (by kernel_rfl) ?_
  simp only [Act.put, List.setIfInBounds_toArray, List.set_cons_succ, List.set_cons_zero]
  refine gw_val (by kernel_rfl) (some 4) rfl (.int .i64 (max size 0)) (max_int rfl size 0 (by kernel_rfl) (by kernel_rfl) _) ?_
  simp only [Act.put, List.setIfInBounds_toArray, List.set_cons_succ, List.set_cons_zero]
  refine gw_val (by kernel_rfl) (some 5) rfl (.int .i64 (min (max size 0) 1024)) (min_int rfl (max size 0) 1024 (by kernel_rfl) (by kernel_rfl) _) ?_
  simp only [Act.put, List.setIfInBounds_toArray, List.set_cons_succ, List.set_cons_zero]
  rw [HW.out]
  refine gw_new (by kernel_rfl) (some 6) rfl (.map (some w.heap.size)) (w.alloc (.map #[] 0)) (ex_new 51 rfl) ?_
  simp only [Act.put, List.setIfInBounds_toArray, List.set_cons_succ, List.set_cons_zero]
  generalize w.alloc (.map #[] 0) = W1 at *
  refine gw_callE (by kernel_rfl) (some 7) rfl 25 #[] (fun v w' => ∃ gl S, v = .pointer (some ⟨gl, 0, none⟩) ∧ RepP w' gl S LM.empty ∧ (∀ k, S k → W1.heap.size ≤ k) ∧ Below W1.heap.size W1 w') (by kernel_rfl) (CL.mono (fun e w2 q => by obtain ⟨gl, S, e1, e2, e3, e4⟩ := q; exact ⟨_, e1, gl, S, rfl, e2, e3, e4⟩)) (fun v9 W2 q => ?_)
  obtain ⟨gl, S, rfl, hls, hS, hb2⟩ := q
  simp only [Act.put, List.setIfInBounds_toArray, List.set_cons_succ, List.set_cons_zero]
  refine gw_val (by kernel_rfl) (some 8) rfl (.agg #[.int .i64 z, .map (some w.heap.size), .pointer (some ⟨gl, 0, none⟩), .slice none 0 0, .slice none 0 0]) (ex_build 55 #[(0, .tmp 5), (1, .tmp 6), (2, .tmp 7)] rfl #[(0, .int .i64 z), (1, .map (some w.heap.size)), (2, .pointer (some ⟨gl, 0, none⟩))] (by kernel_rfl) _ (by kernel_rfl)) ?_
  simp only [Act.put, List.setIfInBounds_toArray, List.set_cons_succ, List.set_cons_zero]
  refine run_to rfl (some 9) rfl (.pointer (some ⟨W2.heap.size, 0, none⟩)) (W2.alloc (.cells #[.int .i64 z, .map (some w.heap.size), .pointer (some ⟨gl, 0, none⟩), .slice none 0 0, .slice none 0 0] 55)) (by kernel_rfl) ?_
  simp only [Act.put, List.setIfInBounds_toArray, List.set_cons_succ, List.set_cons_zero]
  refine gw_val (by kernel_rfl) (some 2) rfl (.pointer (some ⟨W2.heap.size, 0, none⟩)) (by kernel_rfl) ?_
  simp only [Act.put, List.setIfInBounds_toArray, List.set_cons_succ, List.set_cons_zero]
  apply wpList_nil
  have HV : Hid (Nw w z (.returned (.pointer (some ⟨W2.heap.size, 0, none⟩))) (W2.alloc (.cells #[.int .i64 z, .map (some w.heap.size), .pointer (some ⟨gl, 0, none⟩), .slice none 0 0, .slice none 0 0] 55))) := Lib.hid (by
    have hb3 : Below W2.heap.size W2 (W2.alloc (.cells #[.int .i64 z, .map (some w.heap.size), .pointer (some ⟨gl, 0, none⟩), .slice none 0 0, .slice none 0 0] 55)) := (Below.refl _ W2).alloc (Nat.le_refl _) _
    have hs2 := hb2.size
    have hb : Below w.heap.size w (W2.alloc (.cells #[.int .i64 z, .map (some w.heap.size), .pointer (some ⟨gl, 0, none⟩), .slice none 0 0, .slice none 0 0] 55)) := (hbm.trans (hb2.mono (by omega))).trans (hb3.mono (by omega))
    have hp : ∀ i k, Pt W2.heap.size ⟨w.heap.size, gl, none, 0, none, 0, [], []⟩ S i k → (i = 0 ∧ k = W2.heap.size) ∨ (i = 1 ∧ k = w.heap.size) ∨ (i = 2 ∧ W1.heap.size ≤ k ∧ k < W2.heap.size)
      | 0, k, h => .inl ⟨rfl, h⟩
      | 1, k, h => .inr (.inl ⟨rfl, h⟩)
      | 2, k, h => .inr (.inr ⟨rfl, hS k h, list_inn hls k h⟩)
      | 3, k, ⟨x, hx, _⟩ => by cases hx
      | 4, k, ⟨x, hx, _⟩ => by cases hx
      | _ + 5, k, h => h.elim
    refine ⟨W2.heap.size, w.heap.size, gl, S, rfl, ⟨heap_alloc_last W2 _, (hmk.below (by omega) (hb2.mono (Nat.le_refl _))).below (by omega) hb3, list_keep hls hb3.size (fun k hk => hb3.block k (list_inn hls k hk)), World.ownsRow_nil _ _ _ _, World.ownsRow_nil _ _ _ _, ?_⟩, ?_, hb⟩
    · intro i j k h1 h2
      have e1 := hp i k h1
      have e2 := hp j k h2
      omega
    · rintro k ⟨i, hk⟩
      have e1 := hp i k hk
      omega)
  clear hbm hmk CL hsz hls hS hb2
  generalize W2.alloc (.cells #[.int .i64 z, .map (some w.heap.size), .pointer (some ⟨gl, 0, none⟩), .slice none 0 0, .slice none 0 0] 55) = W3 at *
  go_wp2_with fail
  go_ret
  exact HV.out
set_option maxRecDepth 100000 in
set_option maxHeartbeats 4000000 in
theorem q_reset {Bd g z : Nat} {d : Cd} {Sl : Nat → Prop} {L : List (List Int × Int)} {m : LM} {w : World} (h : Mem w g z d L m Sl) (hB : ∀ k, Sc g d Sl k → Bd ≤ k) (hw : Bd ≤ w.heap.size) (hz : z ≤ 1024) : Calls Try.prog 15 #[.pointer (some ⟨g, 0, none⟩)] w fun e w' => e = .returned (.tuple #[]) ∧ Out Bd g z d Sl w [] w' := by
  have H0 := Lib.hid h.ld0
  have CN := q_new w z z (by rw [capN_alt, capN_same z hz])
  have HIN := Lib.hid (Inv.empty z hz)
  have hgl := h.bx.lt
  have hgB := hB g ⟨0, rfl⟩
  have HX := Lib.hid (fun U (hU : Below w.heap.size w U) => (h.below hU).bx)
  clear h hB
  go_enter Try.func15, Try.ntmps15
  go_upto_region 0 with fail
  apply wp_region_lit
  refine gw_val (by kernel_rfl) (some 2) rfl (.pointer (some ⟨g, 0, none⟩)) (by kernel_rfl) ?_
  simp only [Act.put, List.setIfInBounds_toArray, List.set_cons_succ, List.set_cons_zero]
  refine gw_val (by kernel_rfl) (some 3) rfl (.bool true) (by kernel_rfl) ?_
  simp only [Act.put, List.setIfInBounds_toArray, List.set_cons_succ, List.set_cons_zero]
  apply wpList_nil
  go_upto_region 1 with fail
  apply wp_region_lit
  refine gw_val (by kernel_rfl) (some 4) rfl (.pointer (some ⟨g, 0, none⟩)) (by kernel_rfl) ?_
  simp only [Act.put, List.setIfInBounds_toArray, List.set_cons_succ, List.set_cons_zero]
  refine gw_val (by kernel_rfl) (some 5) rfl (.pointer (some ⟨g, 0, none⟩)) (by kernel_rfl) ?_
  simp only [Act.put, List.setIfInBounds_toArray, List.set_cons_succ, List.set_cons_zero]
  refine gw_val (by kernel_rfl) (some 6) rfl (.pointer (some ⟨g, 0, none⟩)) (by kernel_rfl) ?_
  simp only [Act.put, List.setIfInBounds_toArray, List.set_cons_succ, List.set_cons_zero]
  refine gw_val (by kernel_rfl) (some 7) rfl (.pointer (some ⟨g, 0, none⟩)) (by kernel_rfl) ?_
  simp only [Act.put, List.setIfInBounds_toArray, List.set_cons_succ, List.set_cons_zero]
  refine gw_load (by kernel_rfl) (some 8) rfl 3 (.tmp 7) rfl ⟨g, 0, none⟩ (.int .i64 z) (by kernel_rfl) H0.out ?_
  simp only [Act.put, List.setIfInBounds_toArray, List.set_cons_succ, List.set_cons_zero]
  refine gw_callE (by kernel_rfl) (some 9) rfl 11 #[.int .i64 z] (fun v w' => Nw w z (.returned v) w') (by kernel_rfl) (CN.mono (fun e w2 q => by obtain ⟨g2, B, gl, S, e1, q⟩ := q; exact ⟨_, e1, g2, B, gl, S, rfl, q⟩)) (fun v9 V q => ?_)
  obtain ⟨g2, B, gl, S, e9, hM, hS, hb⟩ := q
  obtain rfl : v9 = .pointer (some ⟨g2, 0, none⟩) := by simpa using e9
  simp only [Act.put, List.setIfInBounds_toArray, List.set_cons_succ, List.set_cons_zero]
  refine gw_val (by kernel_rfl) (some 10) rfl (.pointer (some ⟨g2, 0, none⟩)) (by kernel_rfl) ?_
  simp only [Act.put, List.setIfInBounds_toArray, List.set_cons_succ, List.set_cons_zero]
  refine gw_load (by kernel_rfl) (some 11) rfl 55 (.tmp 10) rfl ⟨g2, 0, none⟩ (.agg (hdc z ⟨B, gl, none, 0, none, 0, [], []⟩)) (by kernel_rfl) (load_all hM.bx) ?_
  simp only [Act.put, List.setIfInBounds_toArray, List.set_cons_succ, List.set_cons_zero]
  refine gw_val (by kernel_rfl) (some 12) rfl (.pointer (some ⟨g, 0, none⟩)) (by kernel_rfl) ?_
  simp only [Act.put, List.setIfInBounds_toArray, List.set_cons_succ, List.set_cons_zero]
  refine gw_store (by kernel_rfl) rfl 55 (.tmp 12) (.tmp 11) rfl (.pointer (some ⟨g, 0, none⟩)) (.agg (hdc z ⟨B, gl, none, 0, none, 0, [], []⟩)) (by kernel_rfl) (by kernel_rfl) (V.setRow g (hdc z ⟨B, gl, none, 0, none, 0, [], []⟩)) (run_store_all (HX.out V hb) rfl (by simp [hdc, Value.oneCell']) (by kernel_rfl)) ?_
  apply wpList_nil
  have HV : Hid (Out Bd g z d Sl w [] (V.setRow g (hdc z ⟨B, gl, none, 0, none, 0, [], []⟩))) := Lib.hid (by
    have hbut := But.setRow (g := g) V (hdc z ⟨B, gl, none, 0, none, 0, [], []⟩)
    have hsz := hbut.1.size
    have hs := hb.size
    have hne : ∀ i k, i ≠ 0 → Pt g ⟨B, gl, none, 0, none, 0, [], []⟩ S i k → w.heap.size ≤ k ∧ k < V.heap.size ∧ (V.setRow g (hdc z ⟨B, gl, none, 0, none, 0, [], []⟩)).heap[k]? = V.heap[k]? := fun i k hi hk => by
      have hk2 : Pt g2 ⟨B, gl, none, 0, none, 0, [], []⟩ S i k := by
        match i, hi, hk with
        | 1, _, hk => exact hk
        | 2, _, hk => exact hk
        | 3, _, hk => exact hk
        | 4, _, hk => exact hk
        | _ + 5, _, hk => exact hk
      have h1 := hS k ⟨i, hk2⟩
      have h2 := hM.inn i k hk2
      exact ⟨h1, h2, hbut.2 k h2 (by omega)⟩
    have hp2 : ∀ i k, i ≠ 0 → Pt g ⟨B, gl, none, 0, none, 0, [], []⟩ S i k → Pt g2 ⟨B, gl, none, 0, none, 0, [], []⟩ S i k := fun i k hi hk => by
      match i, hi, hk with
      | 1, _, hk => exact hk
      | 2, _, hk => exact hk
      | 3, _, hk => exact hk
      | 4, _, hk => exact hk
      | _ + 5, _, hk => exact hk
    refine ⟨⟨B, gl, none, 0, none, 0, [], []⟩, [], LM.empty, S, ⟨⟨(HX.out V hb).set, hM.mp.same (hne 1 B (by omega) rfl).2.2, list_keep hM.ls hsz (fun k hk => (hne 2 k (by omega) hk).2.2), World.ownsRow_nil _ _ _ _, World.ownsRow_nil _ _ _ _, ?_⟩, ?_, ?_⟩, HIN.out _ _ _ _ _ _⟩
    · intro i j k h1 h2
      by_cases hi : i = 0 <;> by_cases hj : j = 0
      · omega
      · subst hi
        have e1 : k = g := h1
        have := (hne j k hj h2).1
        omega
      · subst hj
        have e1 : k = g := h2
        have := (hne i k hi h1).1
        omega
      · exact hM.dis i j k (hp2 i k hi h1) (hp2 j k hj h2)
    · rintro k ⟨i, hk⟩
      by_cases hi : i = 0
      · subst hi
        exact .inl ⟨0, hk⟩
      · exact .inr (hne i k hi hk).1
    · exact ⟨(hb.mono hw).trans (hbut.1.mono hgB), fun k hk hn => (hbut.2 k (by omega) (fun e => hn ⟨0, e⟩)).trans (hb.block k hk)⟩)
  clear hM hS hb e9 CN H0 HX HIN hgl hgB hw hz
  generalize V.setRow g (hdc z ⟨B, gl, none, 0, none, 0, [], []⟩) = V3 at *
  go_wp2_with fail
  exact end_none rfl rfl ⟨rfl, HV.out⟩
set_option maxRecDepth 100000 in
set_option maxHeartbeats 4000000 in
theorem n_push2 (w : World) {x : List Int} (hx : x.length = 32) : Calls Try.prog 17 #[.pointer none, .agg (w8s x)] w fun e w' => e = .returned (.bool true) ∧ Below w.heap.size w w' := by
  obtain ⟨hb0, hX0⟩ := box_start x w
  go_enter Try.func17, Try.ntmps17
  go_upto_region 1 with fail
  change Code.wp _ _ _ _ (w.alloc (.cells (w8s x) 34))
  generalize w.alloc (.cells (w8s x) 34) = W at *
  generalize hg0 : w.heap.size = g0 at hX0 ⊢
  have HG0 := Lib.hid hg0
  clear hg0
  have HB0 := Lib.hid hb0
  have HLK := Lib.hid (load_key hX0 hx)
  clear hb0 hX0
  apply wp_region_lit
  refine gw_val (by kernel_rfl) (some 7) rfl (.pointer none) (by kernel_rfl) ?_
  simp only [Act.put, List.setIfInBounds_toArray, List.set_cons_succ, List.set_cons_zero]
  refine gw_val (by kernel_rfl) (some 8) rfl (.bool true) (by kernel_rfl) ?_
  simp only [Act.put, List.setIfInBounds_toArray, List.set_cons_succ, List.set_cons_zero]
  refine gw_val (by kernel_rfl) (some 9) rfl (.bool true) (by kernel_rfl) ?_
  simp only [Act.put, List.setIfInBounds_toArray, List.set_cons_succ, List.set_cons_zero]
  with_reducible refine gw_not (by kernel_rfl) (some 10) rfl ?_
  simp only [Act.put, List.setIfInBounds_toArray, List.set_cons_succ, List.set_cons_zero]
  with_reducible refine gw_not (by kernel_rfl) (some 11) rfl ?_
  simp only [Act.put, List.setIfInBounds_toArray, List.set_cons_succ, List.set_cons_zero]
  with_reducible refine gw_not (by kernel_rfl) (some 12) rfl ?_
  simp only [Act.put, List.setIfInBounds_toArray, List.set_cons_succ, List.set_cons_zero]
  with_reducible refine gw_not (by kernel_rfl) (some 13) rfl ?_
  simp only [Act.put, List.setIfInBounds_toArray, List.set_cons_succ, List.set_cons_zero]
  with_reducible refine gw_not (by kernel_rfl) (some 14) rfl ?_
  simp only [Act.put, List.setIfInBounds_toArray, List.set_cons_succ, List.set_cons_zero]
  refine gw_val (by kernel_rfl) (some 15) rfl (.bool true) (by kernel_rfl) ?_
  simp only [Act.put, List.setIfInBounds_toArray, List.set_cons_succ, List.set_cons_zero]
  apply wpList_nil
  go_upto_region 2 with fail
  apply wp_region_lit
  refine gw_val (by kernel_rfl) (some 4) rfl (.bool true) (by kernel_rfl) ?_
  simp only [Act.put, List.setIfInBounds_toArray, List.set_cons_succ, List.set_cons_zero]
  apply wpList_nil
  go_wp2_with fail
  go_ret
  exact ⟨rfl, HB0.out⟩
set_option maxRecDepth 100000 in
set_option maxHeartbeats 4000000 in
theorem n_has2 (w : World) {x : List Int} (hx : x.length = 32) : Calls Try.prog 21 #[.pointer none, .agg (w8s x)] w fun e w' => e = .returned (.bool false) ∧ Below w.heap.size w w' := by
  obtain ⟨hb0, hX0⟩ := box_start x w
  go_enter Try.func21, Try.ntmps21
  go_upto_region 1 with fail
  change Code.wp _ _ _ _ (w.alloc (.cells (w8s x) 34))
  generalize w.alloc (.cells (w8s x) 34) = W at *
  generalize hg0 : w.heap.size = g0 at hX0 ⊢
  have HG0 := Lib.hid hg0
  clear hg0
  have HB0 := Lib.hid hb0
  have HLK := Lib.hid (load_key hX0 hx)
  clear hb0 hX0
  apply wp_region_lit
  refine gw_val (by kernel_rfl) (some 7) rfl (.pointer none) (by kernel_rfl) ?_
  simp only [Act.put, List.setIfInBounds_toArray, List.set_cons_succ, List.set_cons_zero]
  refine gw_val (by kernel_rfl) (some 8) rfl (.bool true) (by kernel_rfl) ?_
  simp only [Act.put, List.setIfInBounds_toArray, List.set_cons_succ, List.set_cons_zero]
  apply wpList_nil
  go_upto_region 2 with fail
  apply wp_region_lit
  refine gw_val (by kernel_rfl) (some 4) rfl (.bool false) (by kernel_rfl) ?_
  simp only [Act.put, List.setIfInBounds_toArray, List.set_cons_succ, List.set_cons_zero]
  apply wpList_nil
  go_wp2_with fail
  go_ret
  exact ⟨rfl, HB0.out⟩
set_option maxRecDepth 100000 in
set_option maxHeartbeats 4000000 in
theorem n_remove2 (w : World) {x : List Int} (hx : x.length = 32) : Calls Try.prog 14 #[.pointer none, .agg (w8s x)] w fun e w' => e = .returned (.bool false) ∧ Below w.heap.size w w' := by
  have HH := Lib.hid (fun U => n_has2 U hx)
  obtain ⟨hb0, hX0⟩ := box_start x w
  go_enter Try.func14, Try.ntmps14
  go_upto_region 1 with fail
  change Code.wp _ _ _ _ (w.alloc (.cells (w8s x) 34))
  generalize w.alloc (.cells (w8s x) 34) = W at *
  generalize hg0 : w.heap.size = g0 at hX0 ⊢
  have HG0 := Lib.hid hg0
  clear hg0
  have HB0 := Lib.hid hb0
  have HLK := Lib.hid (load_key hX0 hx)
  clear hb0 hX0
  apply wp_region_lit
  refine gw_val (by kernel_rfl) (some 8) rfl (.pointer none) (by kernel_rfl) ?_
  simp only [Act.put, List.setIfInBounds_toArray, List.set_cons_succ, List.set_cons_zero]
  refine gw_load (by kernel_rfl) (some 9) rfl 34 (.tmp 3) rfl ⟨g0, 0, none⟩ (.agg (w8s x)) (by kernel_rfl) (HLK.out) ?_
  simp only [Act.put, List.setIfInBounds_toArray, List.set_cons_succ, List.set_cons_zero]
  refine gw_call (by kernel_rfl) (some 10) rfl 21 #[.pointer none, .agg (w8s x)] (.bool false) (fun w9 => Below W.heap.size W w9) (by kernel_rfl) (HH.out W) (fun W1 hW1 => ?_)
  simp only [Act.put, List.setIfInBounds_toArray, List.set_cons_succ, List.set_cons_zero]
  refine gw_val (by kernel_rfl) (some 11) rfl (.bool true) (by kernel_rfl) ?_
  simp only [Act.put, List.setIfInBounds_toArray, List.set_cons_succ, List.set_cons_zero]
  apply wpList_nil
  have HB1 := Lib.hid (HB0.out.trans (hW1.mono HB0.out.size))
  clear hW1 HB0 HH
  go_upto_region 2 with fail
  apply wp_region_lit
  refine gw_val (by kernel_rfl) (some 4) rfl (.bool false) (by kernel_rfl) ?_
  simp only [Act.put, List.setIfInBounds_toArray, List.set_cons_succ, List.set_cons_zero]
  apply wpList_nil
  go_wp2_with fail
  go_ret
  exact ⟨rfl, HB1.out⟩
set_option maxRecDepth 100000 in
set_option maxHeartbeats 4000000 in
theorem n_keys2 (w : World) : Calls Try.prog 19 #[.pointer none] w fun e w' => e = .returned (.slice none 0 0) ∧ w' = w := by
  go_enter Try.func19, Try.ntmps19
  go_upto_region 1 with fail
  apply wp_region_lit
  refine gw_val (by kernel_rfl) (some 6) rfl (.pointer none) (by kernel_rfl) ?_
  simp only [Act.put, List.setIfInBounds_toArray, List.set_cons_succ, List.set_cons_zero]
  refine gw_val (by kernel_rfl) (some 7) rfl (.bool true) (by kernel_rfl) ?_
  simp only [Act.put, List.setIfInBounds_toArray, List.set_cons_succ, List.set_cons_zero]
  apply wpList_nil
  go_upto_region 2 with fail
  apply wp_region_lit
  refine gw_val (by kernel_rfl) (some 2) rfl (.slice none 0 0) (by kernel_rfl) ?_
  simp only [Act.put, List.setIfInBounds_toArray, List.set_cons_succ, List.set_cons_zero]
  apply wpList_nil
  go_wp2_with fail
  go_ret
  exact ⟨rfl, rfl⟩
set_option maxRecDepth 100000 in
set_option maxHeartbeats 4000000 in
theorem n_len2 (w : World) : Calls Try.prog 20 #[.pointer none] w fun e w' => e = .returned (.int .i64 0) ∧ w' = w := by
  go_enter Try.func20, Try.ntmps20
  go_upto_region 1 with fail
  apply wp_region_lit
  refine gw_val (by kernel_rfl) (some 3) rfl (.pointer none) (by kernel_rfl) ?_
  simp only [Act.put, List.setIfInBounds_toArray, List.set_cons_succ, List.set_cons_zero]
  refine gw_val (by kernel_rfl) (some 4) rfl (.bool true) (by kernel_rfl) ?_
  simp only [Act.put, List.setIfInBounds_toArray, List.set_cons_succ, List.set_cons_zero]
  apply wpList_nil
  go_upto_region 2 with fail
  apply wp_region_lit
  refine gw_val (by kernel_rfl) (some 2) rfl (.int .i64 0) (by kernel_rfl) ?_
  simp only [Act.put, List.setIfInBounds_toArray, List.set_cons_succ, List.set_cons_zero]
  apply wpList_nil
  go_wp2_with fail
  go_ret
  exact ⟨rfl, rfl⟩
set_option maxRecDepth 100000 in
set_option maxHeartbeats 4000000 in
theorem n_reset2 (w : World) : Calls Try.prog 15 #[.pointer none] w fun e w' => e = .returned (.tuple #[]) ∧ w' = w := by
  go_enter Try.func15, Try.ntmps15
  go_upto_region 0 with fail
  apply wp_region_lit
  refine gw_val (by kernel_rfl) (some 2) rfl (.pointer none) (by kernel_rfl) ?_
  simp only [Act.put, List.setIfInBounds_toArray, List.set_cons_succ, List.set_cons_zero]
  refine gw_val (by kernel_rfl) (some 3) rfl (.bool false) (by kernel_rfl) ?_
  simp only [Act.put, List.setIfInBounds_toArray, List.set_cons_succ, List.set_cons_zero]
  apply wpList_nil
  go_wp2_with fail
  exact end_none rfl rfl ⟨rfl, rfl⟩
theorem cache_ok : CacheC RepC 11 17 14 21 19 20 15 :=
  { inn := fun ⟨d, L, m, Sl, hM, _, hS⟩ k hk => by
      obtain ⟨i, hi⟩ := (hS k).1 hk
      exact hM.inn i k hi
    keep := fun ⟨d, L, m, Sl, hM, hI, hS⟩ hz hs => ⟨d, L, m, Sl, hM.same hz (fun i k hk => hs k ((hS k).2 ⟨i, hk⟩)), hI, hS⟩
    new := fun w size hs => (q_new w size _ (capN_alt size)).mono fun e w' ⟨g, B, gl, Sl, e1, hM, hS, hb⟩ => ⟨g, _, e1, ⟨_, _, _, Sl, hM, Inv.empty _ (by unfold capN; omega) _ _ _ _ _ _, fun _ => Iff.rfl⟩, hS, hb⟩
    push := fun w g S z Ks k B ⟨d, L, m, Sl, hM, hI, hS⟩ hc hk hB hw => (q_push hM hI (fun k hk => hB k ((hS k).2 hk)) hw hc hk).mono fun e w' ⟨e1, d', L', m', Sl', hG, hI'⟩ => ⟨e1, hG.upd hI' hS⟩
    remove := fun w g S z Ks k B ⟨d, L, m, Sl, hM, hI, hS⟩ hc hk hB hw => (q_remove hM hI (fun k hk => hB k ((hS k).2 hk)) hw hc hk).mono fun e w' ⟨e1, d', L', m', Sl', hG, hI'⟩ => ⟨e1, hG.upd hI' hS⟩
    reset := fun w g S z Ks B ⟨d, L, m, Sl, hM, hI, hS⟩ hc hB hw => (q_reset hM (fun k hk => hB k ((hS k).2 hk)) hw hc.zm).mono fun e w' ⟨e1, d', L', m', Sl', hG, hI'⟩ => ⟨e1, hG.upd hI' hS⟩
    has := fun w g S z Ks k ⟨d, L, m, Sl, hM, hI, hS⟩ hc hk => q_has hM (hI.ct.keys32 hc.kc) hk _ (by
      rcases hI.ct.look hc.nd k with ⟨-, h1, h2⟩ | ⟨i, j, -, -, h1, -, h2, -⟩
      · rw [h2, decide_eq_false h1]; rfl
      · rw [h2, decide_eq_true h1]; rfl)
    keys := fun w g S z Ks ⟨d, L, m, Sl, hM, hI, hS⟩ hc => (q_keys hM hI hc).mono fun e w' h => h
    len := fun w g S z Ks ⟨d, L, m, Sl, hM, hI, hS⟩ hc => (q_len hM).mono fun e w' ⟨e1, e2⟩ => by
      subst e2
      rw [hI.mlen] at e1
      exact ⟨e1, Below.refl _ _⟩ }
theorem nilc_ok : NilCC 17 14 21 19 20 15 :=
  { push := fun w k hk => n_push2 w hk
    remove := fun w k hk => n_remove2 w hk
    has := fun w k hk => n_has2 w hk
    keys := fun w => (n_keys2 w).mono fun e w' ⟨e1, e2⟩ => by
      subst e2
      exact ⟨none, 0, e1, Below.refl _ _⟩
    len := fun w => (n_len2 w).mono fun e w' ⟨e1, e2⟩ => by
      subst e2
      exact ⟨e1, Below.refl _ _⟩
    reset := fun w => (n_reset2 w).mono fun e w' ⟨e1, e2⟩ => by
      subst e2
      exact ⟨e1, Below.refl _ _⟩ }
end Go.Proofs.Ytjblfpifhbmfoaa
