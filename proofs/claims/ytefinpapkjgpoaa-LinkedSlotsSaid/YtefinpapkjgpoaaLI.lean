/-
  The contracts of the reference's PushBack and PushFront.
-/
import Derived.Test.YtefinpapkjgpoaaLH
namespace Go.Proofs.Ytefinpapkjgpoaa
open Go.RowKit
set_option linter.unusedSimpArgs false
set_option linter.unusedVariables false

theorem T2.put {w V : World} {C C2 R : Array Value} {b : Bool} (h : T2 w C R b V) : T2 w C2 R b (V.setRow w.heap.size C2) :=
  have hb : But w.heap.size V (V.setRow w.heap.size C2) := But.setRow V C2
  ⟨h.bel.trans (hb.below (Nat.le_refl _)), Nat.le_trans h.siz hb.1.size, h.bx.set, h.z.but hb (by omega)⟩
theorem T2.putC {w V : World} {C R : Array Value} {b : Bool} (h : T2 w C R b V) (i : Nat) (v : Value) : T2 w (C.setIfInBounds i v) R b (V.setCell ⟨w.heap.size, i, none⟩ v) :=
  have hb : But w.heap.size V (V.setCell ⟨w.heap.size, i, none⟩ v) := But.setCell V i v
  ⟨h.bel.trans (hb.below (Nat.le_refl _)), Nat.le_trans h.siz hb.1.size, h.bx.setC v, h.z.but hb (by omega)⟩
theorem takeM_E (m : LM) : (takeM m).1.E = m.E := by unfold takeM; split <;> rfl
theorem takeM_F (m : LM) : (takeM m).1.F.length ≤ m.F.length := by unfold takeM; split <;> simp
theorem takeM_U (m : LM) : (takeM m).1.U ≤ m.U + 1 := by unfold takeM; split <;> simp
/-- A row that lies neither in the list's block nor in the result's. -/
def Off2 (g : Nat) (a : Option Addr) (cs : List Value) : Prop := cs = [] ∨ ∀ x, a = some x → x.block ≠ g ∧ x.block ≠ g + 1
theorem Off2.but {g k : Nat} {w w' : World} {a : Option Addr} {cs : List Value} (h : Off2 g a cs) (hc : Cs w a cs) (hb : But k w w') (hk : k = g ∨ k = g + 1) : Cs w' a cs := by
  rcases h with rfl | h
  · exact Cs.nil _ _
  · refine hc.but hb fun x hx => ?_
    have := h x hx
    rcases hk with rfl | rfl
    · exact this.1
    · exact this.2
theorem off_take {w : World} {fa fa2 : Option Addr} {F F2 : List Int} (hf : Cs w fa (icells F)) (hl : F2.length ≤ F.length) (ho : fa2 = fa ∨ ∀ xx, fa2 = some xx → w.heap.size + 2 ≤ xx.block) : Off2 w.heap.size fa2 (icells F2) := by
  cases F2 with
  | nil => exact .inl rfl
  | cons y r =>
    refine .inr fun x hx => ?_
    rcases ho with rfl | ho
    · cases F with
      | nil => simp at hl
      | cons z q =>
        obtain ⟨b, off, e, hb, -⟩ := hf 0 _ rfl
        rw [hx] at e
        simp only [Option.some.injEq] at e
        subst e
        exact ⟨by show b ≠ _; omega, by show b ≠ _; omega⟩
    · have := ho x hx
      omega
theorem T2.low {w V V2 : World} {C R : Array Value} {bs : Bool} (h : T2 w C R bs V) (hb : Below (w.heap.size + 2) V V2) : T2 w C R bs V2 :=
  ⟨h.bel.trans (hb.mono (by omega)), Nat.le_trans h.siz hb.size, h.bx.below (by omega) hb, h.z.below (by omega) hb⟩
theorem len_pair (x y : Int) : ecells [(x, y)] = [.int .i64 x, .int .i64 y] := rfl

set_option maxRecDepth 100000 in
set_option maxHeartbeats 2000000 in
theorem ref_pushB (m : LM) (x : Int) (ea fa : Option Addr) (ec fc : Nat) (w : World) (h : LV w ea fa ec fc m) (hu : m.U + 1 ≤ 1000) (hel : m.E.length + 1 ≤ 1000) :
    Calls Try.prog 30 #[.agg (lv ea fa ec fc m), .int .i64 x] w fun e w' => ∃ ea2 fa2 ec2 fc2, e = .returned (.tuple #[.agg (lv ea2 fa2 ec2 fc2 (pushB m x).1), .int .i64 (pushB m x).2]) ∧ LV w' ea2 fa2 ec2 fc2 (pushB m x).1 ∧ Below w.heap.size w w' ∧ Fr w w' ea ea2 ∧ Fr w w' fa fa2 := by
  have hT := fun R => T2.start w (lv ea fa ec fc m) R
  have h0 := h.below (hT #[]).bel
  have CT := fun V (h : LV V ea fa ec fc m) => ref_take m ea fa ec fc V h hu
  have hE0 := h.e
  have hec := h.ec
  have hF0 := h.f
  have hfl := takeM_F m
  have hE := takeM_E m
  have hlen : (takeM m).1.E.length = m.E.length := by rw [hE]
  rw [← hE] at hE0 hec
  obtain ⟨S, hS⟩ : ∃ S, S = (pushB m x) := ⟨_, rfl⟩
  have HSE : Hid (S.1.E = (takeM m).1.E ++ [((takeM m).2, x)]) := Lib.hid (by rw [hS]; rfl)
  have HSF : Hid (S.1.F = (takeM m).1.F) := Lib.hid (by rw [hS]; rfl)
  have HSU : Hid (S.1.U = (takeM m).1.U) := Lib.hid (by rw [hS]; rfl)
  have HS2 : Hid (S.2 = (takeM m).2) := Lib.hid (by rw [hS]; rfl)
  rw [← hS]
  generalize (takeM m).2 = s at *
  generalize (takeM m).1 = m2 at *
  obtain ⟨ne, hne⟩ : ∃ ne, m2.E.length = ne := ⟨_, rfl⟩
  have HNE := Lib.hid hne
  have hnel : ne + 1 ≤ 1000 := by omega
  clear hS h hE hlen hne
  go_enter Try.func30, Try.ntmps30
  go_upto_region 1 with fail
  change Code.wp _ _ _ _ ((w.alloc (.cells (lv ea fa ec fc m) 28)).alloc (.cells zl 28))
  generalize ((w.alloc (.cells (lv ea fa ec fc m) 28)).alloc (.cells zl 28)) = W at *
  apply wp_region_lit
  refine gw_load (by kernel_rfl) (some 8) rfl 28 (.tmp 2) rfl ⟨w.heap.size, 0, none⟩ (.agg (lv ea fa ec fc m)) (by kernel_rfl) (load_lv (hT #[]).bx) ?_
  simp only [Act.put, List.setIfInBounds_toArray, List.set_cons_succ, List.set_cons_zero]
  refine gw_callE (by kernel_rfl) (some 9) rfl 39 #[.agg (lv ea fa ec fc m)] (fun v w' => ∃ fa2 fc2, v = .tuple #[.agg (lv ea fa2 ec fc2 m2), .int .i64 s] ∧ LV w' ea fa2 ec fc2 m2 ∧ Below W.heap.size W w' ∧ Fr W w' fa fa2) (by kernel_rfl) ((CT W h0).mono fun e w' h => by obtain ⟨a, b, he, h⟩ := h; exact ⟨_, he, a, b, rfl, h⟩) (fun v V1 hq => ?_)
  obtain ⟨fa2, fc2, rfl, hL1, hb1, hfo⟩ := hq
  have HFR2 : Hid (Fr w V1 fa fa2) := Lib.hid (hfo.wide (Nat.le_trans (Nat.le_add_right _ 2) (hT #[]).siz) (Nat.le_refl _))
  have hOF : Off2 w.heap.size fa2 (icells m2.F) := off_take hF0 hfl (hfo.imp id fun h xx hx => Nat.le_trans (hT #[]).siz (h xx hx).1)
  have hT1 := fun R => (hT R).below hb1
  clear hT h0 CT hb1
  simp only [Act.put, List.setIfInBounds_toArray, List.set_cons_succ, List.set_cons_zero]
  refine gw_val (by kernel_rfl) (some 7) rfl (.tuple #[.agg (lv ea fa2 ec fc2 m2), .int .i64 s]) (by kernel_rfl) ?_
  simp only [Act.put, List.setIfInBounds_toArray, List.set_cons_succ, List.set_cons_zero]
  refine gw_val (by kernel_rfl) (some 10) rfl (.agg (lv ea fa2 ec fc2 m2)) (by kernel_rfl) ?_
  simp only [Act.put, List.setIfInBounds_toArray, List.set_cons_succ, List.set_cons_zero]
  refine gw_val (by kernel_rfl) (some 11) rfl (.int .i64 s) (by kernel_rfl) ?_
  simp only [Act.put, List.setIfInBounds_toArray, List.set_cons_succ, List.set_cons_zero]
  refine gw_store (by kernel_rfl) rfl 28 (.tmp 2) (.tmp 10) rfl (.pointer (some ⟨w.heap.size, 0, none⟩)) (.agg (lv ea fa2 ec fc2 m2)) (by kernel_rfl) (by kernel_rfl) _ (run_store_all (hT1 #[]).bx rfl (one_lv _ _ _ _ _ _ _) (by kernel_rfl)) ?_
  refine gw_val (by kernel_rfl) (some 6) rfl (.int .i64 s) (by kernel_rfl) ?_
  simp only [Act.put, List.setIfInBounds_toArray, List.set_cons_succ, List.set_cons_zero]
  apply wpList_nil
  have hT2 := fun R => (hT1 R).put (C2 := lv ea fa2 ec fc2 m2)
  have hF2 := hOF.but hL1.f (But.setRow (g := w.heap.size) V1 (lv ea fa2 ec fc2 m2)) (.inl rfl)
  have hz12 := (But.setRow (g := w.heap.size) V1 (lv ea fa2 ec fc2 m2)).1.size
  generalize V1.setRow w.heap.size (lv ea fa2 ec fc2 m2) = V2 at *
  have hfc := hL1.fc
  have hfn := hL1.fn
  have hun := hL1.un
  have hE2 := hE0.below (hT2 #[]).bel
  rw [HNE.out] at hec
  clear hT1 hL1 hfo hF0 hE0
  have ho3 := own_nil V2 40 2
  have hb3 : Below V2.heap.size V2 (V2.alloc (.cells #[] 40)) := (Below.refl _ V2).alloc (Nat.le_refl _) _
  obtain ⟨v4, V4, hap4, ho4, hb4, -⟩ := append_el ho3 ea ec m2.E (hE2.below hb3) HNE.out hb3.size (by omega) (by omega)
  rw [List.nil_append, Nat.zero_add] at ho4
  have hb34 := hb3.trans hb4
  obtain ⟨a4, c4, rfl, -, -⟩ := own_cs ho4
  have hb5 : Below V4.heap.size V4 (V4.alloc (.cells #[.int .i64 s, .int .i64 x] 40)) := (Below.refl _ V4).alloc (Nat.le_refl _) _
  have hC5 : Cs (V4.alloc (.cells #[.int .i64 s, .int .i64 x] 40)) (some ⟨V4.heap.size, 0, none⟩) (ecells [(s, x)]) := Cs.block (t := 40) (fr := (0, 0)) (heap_alloc_last V4 _)
  obtain ⟨v6, V6, hap6, ho6, hb6, -⟩ := append_el (own_below ho4 hb5) (some ⟨V4.heap.size, 0, none⟩) 1 [(s, x)] hC5 (m := 1) rfl (Nat.le_trans hb34.size hb5.size) (by omega) (by omega)
  rw [← ecells_app, ← HSE.out] at ho6
  obtain ⟨a6, c6, rfl, -, hc6⟩ := own_cs ho6
  have hb26 := hb34.trans ((hb5.mono hb34.size).trans hb6)
  have hT6 := fun R => (hT2 R).low (hb26.mono (hT2 #[]).siz)
  have hF6 := hF2.below hb26
  have hV2 := (hT2 #[]).siz
  go_upto_region 2 with fail
  apply wp_region_lit
  refine gw_build (by kernel_rfl) (some 12) rfl 26 0 #[] rfl #[] (by kernel_rfl) (.slice (some ⟨V2.heap.size, 0, none⟩) 0 0) _ (nil_el V2) ?_
  simp only [Act.put, List.setIfInBounds_toArray, List.set_cons_succ, List.set_cons_zero]
  refine gw_val (by kernel_rfl) (some 13) rfl (.pointer (some ⟨w.heap.size, 0, none⟩)) (by kernel_rfl) ?_
  simp only [Act.put, List.setIfInBounds_toArray, List.set_cons_succ, List.set_cons_zero]
  refine gw_load (by kernel_rfl) (some 14) rfl 26 (.tmp 13) rfl ⟨w.heap.size, 0, none⟩ (.slice ea ne ec) (by kernel_rfl) (((hT2 #[]).below hb3).bx.load (by rw [← HNE.out]; rfl) (by kernel_rfl)) ?_
  simp only [Act.put, List.setIfInBounds_toArray, List.set_cons_succ, List.set_cons_zero]
  refine append_step rfl (some 15) rfl 26 rfl (.tmp 12) (.tmp 14) 26 rfl (.slice (some ⟨V2.heap.size, 0, none⟩) 0 0) (.slice ea ne ec) (.slice a4 ne c4) V4 (by kernel_rfl) (by kernel_rfl) hap4 ?_
  simp only [Act.put, List.setIfInBounds_toArray, List.set_cons_succ, List.set_cons_zero]
  refine gw_val (by kernel_rfl) (some 16) rfl (.int .i64 s) (by kernel_rfl) ?_
  simp only [Act.put, List.setIfInBounds_toArray, List.set_cons_succ, List.set_cons_zero]
  refine gw_val (by kernel_rfl) (some 17) rfl (.int .i64 x) (by kernel_rfl) ?_
  simp only [Act.put, List.setIfInBounds_toArray, List.set_cons_succ, List.set_cons_zero]
  refine gw_val (by kernel_rfl) (some 18) rfl (.agg #[.int .i64 s, .int .i64 x]) (by kernel_rfl) ?_
  simp only [Act.put, List.setIfInBounds_toArray, List.set_cons_succ, List.set_cons_zero]
  refine gw_build (by kernel_rfl) (some 19) rfl 26 1 #[(0, .tmp 18)] rfl #[(0, .agg #[.int .i64 s, .int .i64 x])] (by kernel_rfl) (.slice (some ⟨V4.heap.size, 0, none⟩) 1 1) _ (one_el s x V4) ?_
  simp only [Act.put, List.setIfInBounds_toArray, List.set_cons_succ, List.set_cons_zero]
  refine append_step rfl (some 20) rfl 26 rfl (.tmp 15) (.tmp 19) 26 rfl (.slice a4 ne c4) (.slice (some ⟨V4.heap.size, 0, none⟩) 1 1) (.slice a6 (ne + 1) c6) V6 (by kernel_rfl) (by kernel_rfl) hap6 ?_
  simp only [Act.put, List.setIfInBounds_toArray, List.set_cons_succ, List.set_cons_zero]
  refine gw_val (by kernel_rfl) (some 21) rfl (.pointer (some ⟨w.heap.size, 0, none⟩)) (by kernel_rfl) ?_
  simp only [Act.put, List.setIfInBounds_toArray, List.set_cons_succ, List.set_cons_zero]
  refine gw_store (by kernel_rfl) rfl 26 (.tmp 21) (.tmp 20) rfl (.pointer (some ⟨w.heap.size, 0, none⟩)) (.slice a6 (ne + 1) c6) (by kernel_rfl) (by kernel_rfl) _ (run_store_cell (hT6 #[]).bx (by simp [lv]) rfl (by kernel_rfl)) ?_
  apply wpList_nil
  have hT7 := fun R => (hT6 R).putC 0 (.slice a6 (ne + 1) c6)
  have hF7 := hOF.but hF6 (But.setCell (g := w.heap.size) V6 0 (.slice a6 (ne + 1) c6)) (.inl rfl)
  have ho7 := own_but ho6 (But.setCell (g := w.heap.size) V6 0 (.slice a6 (ne + 1) c6)) (by omega)
  have hlv : (lv ea fa2 ec fc2 m2).setIfInBounds 0 (.slice a6 (ne + 1) c6) = lv a6 fa2 c6 fc2 S.1 := by
    have e1 : S.1.E.length = ne + 1 := by rw [HSE.out]; simp [HNE.out]
    unfold lv
    rw [e1, HSF.out, HSU.out]
    rfl
  rw [hlv] at hT7
  have hz67 := (But.setCell (g := w.heap.size) V6 0 (.slice a6 (ne + 1) c6)).1.size
  have hz26 := hb26.size
  generalize V6.setCell ⟨w.heap.size, 0, none⟩ (.slice a6 (ne + 1) c6) = V7 at *
  clear hT6 hF6 ho6 hT2 hF2 hE2 hb26
  go_upto_region 3 with fail
  apply wp_region_lit
  refine gw_load (by kernel_rfl) (some 22) rfl 28 (.tmp 2) rfl ⟨w.heap.size, 0, none⟩ (.agg (lv a6 fa2 c6 fc2 S.1)) (by kernel_rfl) (load_lv (hT7 #[]).bx) ?_
  simp only [Act.put, List.setIfInBounds_toArray, List.set_cons_succ, List.set_cons_zero]
  refine gw_val (by kernel_rfl) (some 23) rfl (.int .i64 s) (by kernel_rfl) ?_
  simp only [Act.put, List.setIfInBounds_toArray, List.set_cons_succ, List.set_cons_zero]
  refine gw_store (by kernel_rfl) rfl 28 (.tmp 4) (.tmp 22) rfl (.pointer (some ⟨w.heap.size + 1, 0, none⟩)) (.agg (lv a6 fa2 c6 fc2 S.1)) (by kernel_rfl) (by kernel_rfl) _ (run_store_all (hT7 #[]).z rfl (one_lv _ _ _ _ _ _ _) (by kernel_rfl)) ?_
  refine gw_val (by kernel_rfl) (some 5) rfl (.int .i64 s) (by kernel_rfl) ?_
  simp only [Act.put, List.setIfInBounds_toArray, List.set_cons_succ, List.set_cons_zero]
  apply wpList_nil
  have hT8 := (hT7 (lv a6 fa2 c6 fc2 S.1)).stored
  have hF8 := hOF.but hF7 (But.setRow (g := w.heap.size + 1) V7 (lv a6 fa2 c6 fc2 S.1)) (.inr rfl)
  have ho8 := own_but ho7 (But.setRow (g := w.heap.size + 1) V7 (lv a6 fa2 c6 fc2 S.1)) (by omega)
  have hz78 := (But.setRow (g := w.heap.size + 1) V7 (lv a6 fa2 c6 fc2 S.1)).1.size
  generalize V7.setRow (w.heap.size + 1) (lv a6 fa2 c6 fc2 S.1) = V8 at *
  obtain ⟨a8, c8, e8, hC8, -⟩ := own_cs ho8
  simp only [Value.slice.injEq, true_and] at e8
  obtain ⟨rfl, rfl⟩ := e8
  have hz : Bx V8 (w.heap.size + 1) (lv a6 fa2 c6 fc2 S.1) 28 := hT8.z
  have HZ := Lib.hid hz
  have HB := Lib.hid hT8.bel
  have HFR : Hid (Fr w V8 ea a6) := Lib.hid (own_fr ho8 (by omega))
  have HFR3 : Hid (Fr w V8 fa fa2) := Lib.hid (HFR2.out.wide (Nat.le_refl _) (by omega))
  have HL : Hid (LV V8 a6 fa2 c6 fc2 S.1) := Lib.hid ⟨hC8, by rw [HSE.out]; simp [HNE.out]; exact hc6, by rw [HSF.out]; exact hF8, by rw [HSF.out]; exact hfc, by rw [HSE.out]; simp [HNE.out]; omega, by rw [HSF.out]; exact hfn, by rw [HSU.out]; exact hun⟩
  clear hT7 hF7 ho7 hT8 hF8 ho8 hC8 hz hOF
  go_wp2_with fail
  exact bodyPost_ret (results_lv (p := 4) (q := 5) (by kernel_rfl) (by kernel_rfl) (by kernel_rfl) HZ.out (by kernel_rfl)) rfl ⟨a6, fa2, c6, fc2, by rw [HS2.out], HL.out, HB.out, HFR.out, HFR3.out⟩
set_option maxRecDepth 100000 in
set_option maxHeartbeats 2000000 in
theorem ref_pushF (m : LM) (x : Int) (ea fa : Option Addr) (ec fc : Nat) (w : World) (h : LV w ea fa ec fc m) (hu : m.U + 1 ≤ 1000) (hel : m.E.length + 1 ≤ 1000) :
    Calls Try.prog 31 #[.agg (lv ea fa ec fc m), .int .i64 x] w fun e w' => ∃ ea2 fa2 ec2 fc2, e = .returned (.tuple #[.agg (lv ea2 fa2 ec2 fc2 (pushF m x).1), .int .i64 (pushF m x).2]) ∧ LV w' ea2 fa2 ec2 fc2 (pushF m x).1 ∧ Below w.heap.size w w' ∧ Fr w w' ea ea2 ∧ Fr w w' fa fa2 := by
  have hT := fun R => T2.start w (lv ea fa ec fc m) R
  have h0 := h.below (hT #[]).bel
  have CT := fun V (h : LV V ea fa ec fc m) => ref_take m ea fa ec fc V h hu
  have hE0 := h.e
  have hec := h.ec
  have hF0 := h.f
  have hfl := takeM_F m
  have hE := takeM_E m
  have hlen : (takeM m).1.E.length = m.E.length := by rw [hE]
  rw [← hE] at hE0 hec
  obtain ⟨S, hS⟩ : ∃ S, S = (pushF m x) := ⟨_, rfl⟩
  have HSE : Hid (S.1.E = ((takeM m).2, x) :: (takeM m).1.E) := Lib.hid (by rw [hS]; rfl)
  have HSF : Hid (S.1.F = (takeM m).1.F) := Lib.hid (by rw [hS]; rfl)
  have HSU : Hid (S.1.U = (takeM m).1.U) := Lib.hid (by rw [hS]; rfl)
  have HS2 : Hid (S.2 = (takeM m).2) := Lib.hid (by rw [hS]; rfl)
  rw [← hS]
  generalize (takeM m).2 = s at *
  generalize (takeM m).1 = m2 at *
  obtain ⟨ne, hne⟩ : ∃ ne, m2.E.length = ne := ⟨_, rfl⟩
  have HNE := Lib.hid hne
  have hnel : ne + 1 ≤ 1000 := by omega
  clear hS h hE hlen hne
  go_enter Try.func31, Try.ntmps31
  go_upto_region 1 with fail
  change Code.wp _ _ _ _ ((w.alloc (.cells (lv ea fa ec fc m) 28)).alloc (.cells zl 28))
  generalize ((w.alloc (.cells (lv ea fa ec fc m) 28)).alloc (.cells zl 28)) = W at *
  apply wp_region_lit
  refine gw_load (by kernel_rfl) (some 8) rfl 28 (.tmp 2) rfl ⟨w.heap.size, 0, none⟩ (.agg (lv ea fa ec fc m)) (by kernel_rfl) (load_lv (hT #[]).bx) ?_
  simp only [Act.put, List.setIfInBounds_toArray, List.set_cons_succ, List.set_cons_zero]
  refine gw_callE (by kernel_rfl) (some 9) rfl 39 #[.agg (lv ea fa ec fc m)] (fun v w' => ∃ fa2 fc2, v = .tuple #[.agg (lv ea fa2 ec fc2 m2), .int .i64 s] ∧ LV w' ea fa2 ec fc2 m2 ∧ Below W.heap.size W w' ∧ Fr W w' fa fa2) (by kernel_rfl) ((CT W h0).mono fun e w' h => by obtain ⟨a, b, he, h⟩ := h; exact ⟨_, he, a, b, rfl, h⟩) (fun v V1 hq => ?_)
  obtain ⟨fa2, fc2, rfl, hL1, hb1, hfo⟩ := hq
  have HFR2 : Hid (Fr w V1 fa fa2) := Lib.hid (hfo.wide (Nat.le_trans (Nat.le_add_right _ 2) (hT #[]).siz) (Nat.le_refl _))
  have hOF : Off2 w.heap.size fa2 (icells m2.F) := off_take hF0 hfl (hfo.imp id fun h xx hx => Nat.le_trans (hT #[]).siz (h xx hx).1)
  have hT1 := fun R => (hT R).below hb1
  clear hT h0 CT hb1
  simp only [Act.put, List.setIfInBounds_toArray, List.set_cons_succ, List.set_cons_zero]
  refine gw_val (by kernel_rfl) (some 7) rfl (.tuple #[.agg (lv ea fa2 ec fc2 m2), .int .i64 s]) (by kernel_rfl) ?_
  simp only [Act.put, List.setIfInBounds_toArray, List.set_cons_succ, List.set_cons_zero]
  refine gw_val (by kernel_rfl) (some 10) rfl (.agg (lv ea fa2 ec fc2 m2)) (by kernel_rfl) ?_
  simp only [Act.put, List.setIfInBounds_toArray, List.set_cons_succ, List.set_cons_zero]
  refine gw_val (by kernel_rfl) (some 11) rfl (.int .i64 s) (by kernel_rfl) ?_
  simp only [Act.put, List.setIfInBounds_toArray, List.set_cons_succ, List.set_cons_zero]
  refine gw_store (by kernel_rfl) rfl 28 (.tmp 2) (.tmp 10) rfl (.pointer (some ⟨w.heap.size, 0, none⟩)) (.agg (lv ea fa2 ec fc2 m2)) (by kernel_rfl) (by kernel_rfl) _ (run_store_all (hT1 #[]).bx rfl (one_lv _ _ _ _ _ _ _) (by kernel_rfl)) ?_
  refine gw_val (by kernel_rfl) (some 6) rfl (.int .i64 s) (by kernel_rfl) ?_
  simp only [Act.put, List.setIfInBounds_toArray, List.set_cons_succ, List.set_cons_zero]
  apply wpList_nil
  have hT2 := fun R => (hT1 R).put (C2 := lv ea fa2 ec fc2 m2)
  have hF2 := hOF.but hL1.f (But.setRow (g := w.heap.size) V1 (lv ea fa2 ec fc2 m2)) (.inl rfl)
  have hz12 := (But.setRow (g := w.heap.size) V1 (lv ea fa2 ec fc2 m2)).1.size
  generalize V1.setRow w.heap.size (lv ea fa2 ec fc2 m2) = V2 at *
  have hfc := hL1.fc
  have hfn := hL1.fn
  have hun := hL1.un
  have hE2 := hE0.below (hT2 #[]).bel
  rw [HNE.out] at hec
  clear hT1 hL1 hfo hF0 hE0
  have hb5 : Below V2.heap.size V2 (V2.alloc (.cells #[.int .i64 s, .int .i64 x] 40)) := (Below.refl _ V2).alloc (Nat.le_refl _) _
  have ho5 : (V2.alloc (.cells #[.int .i64 s, .int .i64 x] 40)).ownsRow V2.heap.size 40 2 (.slice (some ⟨V2.heap.size, 0, none⟩) 1 1) 1 (ecells [(s, x)]) :=
    ⟨rfl, .inr ⟨V2.heap.size, 1, _, rfl, Nat.le_refl _, heap_alloc_last V2 _, Nat.le_refl _, by simp [maxLen], rfl, rfl⟩⟩
  obtain ⟨v6, V6, hap6, ho6, hb6, -⟩ := append_el ho5 ea ec m2.E (hE2.below hb5) HNE.out hb5.size (by omega) (by omega)
  rw [← ecells_app, Nat.add_comm 1 ne, show [(s, x)] ++ m2.E = S.1.E from HSE.out.symm] at ho6
  obtain ⟨a6, c6, rfl, -, hc6⟩ := own_cs ho6
  have hb26 := hb5.trans hb6
  have hT6 := fun R => (hT2 R).low (hb26.mono (hT2 #[]).siz)
  have hF6 := hF2.below hb26
  have hV2 := (hT2 #[]).siz
  go_upto_region 2 with fail
  apply wp_region_lit
  refine gw_val (by kernel_rfl) (some 12) rfl (.int .i64 s) (by kernel_rfl) ?_
  simp only [Act.put, List.setIfInBounds_toArray, List.set_cons_succ, List.set_cons_zero]
  refine gw_val (by kernel_rfl) (some 13) rfl (.int .i64 x) (by kernel_rfl) ?_
  simp only [Act.put, List.setIfInBounds_toArray, List.set_cons_succ, List.set_cons_zero]
  refine gw_val (by kernel_rfl) (some 14) rfl (.agg #[.int .i64 s, .int .i64 x]) (by kernel_rfl) ?_
  simp only [Act.put, List.setIfInBounds_toArray, List.set_cons_succ, List.set_cons_zero]
  refine gw_build (by kernel_rfl) (some 15) rfl 26 1 #[(0, .tmp 14)] rfl #[(0, .agg #[.int .i64 s, .int .i64 x])] (by kernel_rfl) (.slice (some ⟨V2.heap.size, 0, none⟩) 1 1) _ (one_el s x V2) ?_
  simp only [Act.put, List.setIfInBounds_toArray, List.set_cons_succ, List.set_cons_zero]
  refine gw_val (by kernel_rfl) (some 16) rfl (.pointer (some ⟨w.heap.size, 0, none⟩)) (by kernel_rfl) ?_
  simp only [Act.put, List.setIfInBounds_toArray, List.set_cons_succ, List.set_cons_zero]
  refine gw_load (by kernel_rfl) (some 17) rfl 26 (.tmp 16) rfl ⟨w.heap.size, 0, none⟩ (.slice ea ne ec) (by kernel_rfl) (((hT2 #[]).below hb5).bx.load (by rw [← HNE.out]; rfl) (by kernel_rfl)) ?_
  simp only [Act.put, List.setIfInBounds_toArray, List.set_cons_succ, List.set_cons_zero]
  refine append_step rfl (some 18) rfl 26 rfl (.tmp 15) (.tmp 17) 26 rfl (.slice (some ⟨V2.heap.size, 0, none⟩) 1 1) (.slice ea ne ec) (.slice a6 (ne + 1) c6) V6 (by kernel_rfl) (by kernel_rfl) hap6 ?_
  simp only [Act.put, List.setIfInBounds_toArray, List.set_cons_succ, List.set_cons_zero]
  refine gw_val (by kernel_rfl) (some 19) rfl (.pointer (some ⟨w.heap.size, 0, none⟩)) (by kernel_rfl) ?_
  simp only [Act.put, List.setIfInBounds_toArray, List.set_cons_succ, List.set_cons_zero]
  refine gw_store (by kernel_rfl) rfl 26 (.tmp 19) (.tmp 18) rfl (.pointer (some ⟨w.heap.size, 0, none⟩)) (.slice a6 (ne + 1) c6) (by kernel_rfl) (by kernel_rfl) _ (run_store_cell (hT6 #[]).bx (by simp [lv]) rfl (by kernel_rfl)) ?_
  apply wpList_nil
  have hT7 := fun R => (hT6 R).putC 0 (.slice a6 (ne + 1) c6)
  have hF7 := hOF.but hF6 (But.setCell (g := w.heap.size) V6 0 (.slice a6 (ne + 1) c6)) (.inl rfl)
  have ho7 := own_but ho6 (But.setCell (g := w.heap.size) V6 0 (.slice a6 (ne + 1) c6)) (by omega)
  have hlv : (lv ea fa2 ec fc2 m2).setIfInBounds 0 (.slice a6 (ne + 1) c6) = lv a6 fa2 c6 fc2 S.1 := by
    have e1 : S.1.E.length = ne + 1 := by rw [HSE.out]; simp [HNE.out]
    unfold lv
    rw [e1, HSF.out, HSU.out]
    rfl
  rw [hlv] at hT7
  have hz67 := (But.setCell (g := w.heap.size) V6 0 (.slice a6 (ne + 1) c6)).1.size
  have hz26 := hb26.size
  generalize V6.setCell ⟨w.heap.size, 0, none⟩ (.slice a6 (ne + 1) c6) = V7 at *
  clear hT6 hF6 ho6 hT2 hF2 hE2 hb26
  go_upto_region 3 with fail
  apply wp_region_lit
  refine gw_load (by kernel_rfl) (some 20) rfl 28 (.tmp 2) rfl ⟨w.heap.size, 0, none⟩ (.agg (lv a6 fa2 c6 fc2 S.1)) (by kernel_rfl) (load_lv (hT7 #[]).bx) ?_
  simp only [Act.put, List.setIfInBounds_toArray, List.set_cons_succ, List.set_cons_zero]
  refine gw_val (by kernel_rfl) (some 21) rfl (.int .i64 s) (by kernel_rfl) ?_
  simp only [Act.put, List.setIfInBounds_toArray, List.set_cons_succ, List.set_cons_zero]
  refine gw_store (by kernel_rfl) rfl 28 (.tmp 4) (.tmp 20) rfl (.pointer (some ⟨w.heap.size + 1, 0, none⟩)) (.agg (lv a6 fa2 c6 fc2 S.1)) (by kernel_rfl) (by kernel_rfl) _ (run_store_all (hT7 #[]).z rfl (one_lv _ _ _ _ _ _ _) (by kernel_rfl)) ?_
  refine gw_val (by kernel_rfl) (some 5) rfl (.int .i64 s) (by kernel_rfl) ?_
  simp only [Act.put, List.setIfInBounds_toArray, List.set_cons_succ, List.set_cons_zero]
  apply wpList_nil
  have hT8 := (hT7 (lv a6 fa2 c6 fc2 S.1)).stored
  have hF8 := hOF.but hF7 (But.setRow (g := w.heap.size + 1) V7 (lv a6 fa2 c6 fc2 S.1)) (.inr rfl)
  have ho8 := own_but ho7 (But.setRow (g := w.heap.size + 1) V7 (lv a6 fa2 c6 fc2 S.1)) (by omega)
  have hz78 := (But.setRow (g := w.heap.size + 1) V7 (lv a6 fa2 c6 fc2 S.1)).1.size
  generalize V7.setRow (w.heap.size + 1) (lv a6 fa2 c6 fc2 S.1) = V8 at *
  obtain ⟨a8, c8, e8, hC8, -⟩ := own_cs ho8
  simp only [Value.slice.injEq, true_and] at e8
  obtain ⟨rfl, rfl⟩ := e8
  have hz : Bx V8 (w.heap.size + 1) (lv a6 fa2 c6 fc2 S.1) 28 := hT8.z
  have HZ := Lib.hid hz
  have HB := Lib.hid hT8.bel
  have HFR : Hid (Fr w V8 ea a6) := Lib.hid (own_fr ho8 (by omega))
  have HFR3 : Hid (Fr w V8 fa fa2) := Lib.hid (HFR2.out.wide (Nat.le_refl _) (by omega))
  have HL : Hid (LV V8 a6 fa2 c6 fc2 S.1) := Lib.hid ⟨hC8, by rw [HSE.out]; simp [HNE.out]; exact hc6, by rw [HSF.out]; exact hF8, by rw [HSF.out]; exact hfc, by rw [HSE.out]; simp [HNE.out]; omega, by rw [HSF.out]; exact hfn, by rw [HSU.out]; exact hun⟩
  clear hT7 hF7 ho7 hT8 hF8 ho8 hC8 hz hOF
  go_wp2_with fail
  exact bodyPost_ret (results_lv (p := 4) (q := 5) (by kernel_rfl) (by kernel_rfl) (by kernel_rfl) HZ.out (by kernel_rfl)) rfl ⟨a6, fa2, c6, fc2, by rw [HS2.out], HL.out, HB.out, HFR.out, HFR3.out⟩
end Go.Proofs.Ytefinpapkjgpoaa
