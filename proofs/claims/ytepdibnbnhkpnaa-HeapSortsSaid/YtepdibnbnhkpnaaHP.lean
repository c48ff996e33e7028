/-
  The program's heap: New, Len, Peek, Remove, Pop.
-/
import Derived.Test.YtepdibnbnhkpnaaHD
namespace Go.Proofs.Ytepdibnbnhkpnaa
open Go.RowKit
set_option linter.unusedSimpArgs false
set_option linter.unusedVariables false

/-- What is known of a heap in memory. -/
structure In9 (Bd g : Nat) (d : Hd) (f : Int → Option Int) (w : World) : Prop where
  mem : Mh w g d f
  px : Px d.A f
  ho : HO d.A
  hB : ∀ k, Sh g d k → Bd ≤ k
  hw : Bd ≤ w.heap.size
  ids : (d.A.map (·.1)).Nodup
  len : d.A.length ≤ 90000
/-- A heap's items are now M. -/
def Ou9 (Bd g : Nat) (d : Hd) (w : World) (M : List It) (V : World) : Prop := ∃ d' f', Gh Bd g d w d' f' V ∧ Px d'.A f' ∧ HO d'.A ∧ d'.A.Perm M
theorem Ou9.mk' {Bd g : Nat} {d : Hd} {w V : World} {T M : List It} (h : Hm Bd g d w T V) (ho : HO T) (hp : T.Perm M) : Ou9 Bd g d w M V := by
  obtain ⟨pm, f, hG, hx⟩ := h
  exact ⟨_, f, hG, hx, ho, hp⟩
theorem results_ib {fn : Func} {tmps : Array Value} {w : World} {p q g : Nat} {v u : Value} (hr : fn.results = #[.cell p 24, .tmp q]) (h2 : tmps.getD p undef = .pointer (some ⟨g, 0, none⟩)) (hl : (Instr.loadAt 24 (.pointer (some ⟨g, 0, none⟩))).run Try.prog w = .ok v w) (h3 : tmps.getD q undef = u) : (results fn tmps).run Try.prog w = .ok (.tuple #[v, u]) w := by
  unfold results
  rw [hr]
  have h2' : tmps[p]?.getD undef = .pointer (some ⟨g, 0, none⟩) := by simpa using h2
  have h3' : tmps[q]?.getD undef = u := by simpa using h3
  have hl' := hl
  simp only [Instr.loadAt, Instr.sureAddr, Sem.run_bind, Sem.run_pure, Result.andThen_ok] at hl'
  simp [h2', h3', asAddr, hl', Result.andThen]
theorem results_i1 {fn : Func} {tmps : Array Value} {w : World} {p g : Nat} {v : Value} (hr : fn.results = #[.cell p 24]) (h2 : tmps.getD p undef = .pointer (some ⟨g, 0, none⟩)) (hl : (Instr.loadAt 24 (.pointer (some ⟨g, 0, none⟩))).run Try.prog w = .ok v w) : (results fn tmps).run Try.prog w = .ok v w := by
  unfold results
  rw [hr]
  have h2' : tmps[p]?.getD undef = .pointer (some ⟨g, 0, none⟩) := by simpa using h2
  have hl' := hl
  simp only [Instr.loadAt, Instr.sureAddr, Sem.run_bind, Sem.run_pure, Result.andThen_ok] at hl'
  simp [h2', asAddr, hl', Result.andThen]
def zIt : It := (0, 0, 0)
theorem box_z (w : World) : Gd w (w.alloc (.cells (itA zIt) 24)) ∧ Bx (w.alloc (.cells (itA zIt) 24)) w.heap.size (itA zIt) 24 := ⟨Gd.alloc w _, heap_alloc_last w _⟩
/-- A whole item goes into a block. -/
theorem store_box {w : World} {g : Nat} {x y : It} (h : Bx w g (itA x) 24) : (Instr.storeAt 24 (.pointer (some ⟨g, 0, none⟩)) (.agg (itA y))).run Try.prog w = .ok () (w.setRow g (itA y)) ∧ Bx (w.setRow g (itA y)) g (itA y) 24 :=
  ⟨run_store_all h rfl (itA_one y) (by kernel_rfl), h.set⟩
theorem Gd.set {w W : World} {g : Nat} (h : Gd w W) (hg : w.heap.size ≤ g) (cs : Array Value) : Gd w (W.setRow g cs) := ⟨belowRow h.1 hg cs, h.2⟩
theorem q_len {g : Nat} {d : Hd} {f : Int → Option Int} {w : World} (h : Mh w g d f) : Calls Try.prog 21 #[.pointer (some ⟨g, 0, none⟩)] w fun e w' => e = .returned (.int .i64 d.A.length) ∧ w = w' := by
  have HL := Lib.hid h.ld0
  generalize d.A.length = n at *
  clear h
  go_enter Try.func21, Try.ntmps21
  go_upto_region 1 with fail
  apply wp_region_lit
  refine gw_val (by kernel_rfl) (some 3) rfl (.pointer (some ⟨g, 0, none⟩)) (by kernel_rfl) ?_
  simp only [Act.put, List.setIfInBounds_toArray, List.set_cons_succ, List.set_cons_zero]
  refine gw_val (by kernel_rfl) (some 4) rfl (.bool false) (by kernel_rfl) ?_
  simp only [Act.put, List.setIfInBounds_toArray, List.set_cons_succ, List.set_cons_zero]
  apply wpList_nil
  go_upto_region 3 with fail
  apply wp_region_lit
  refine gw_val (by kernel_rfl) (some 5) rfl (.pointer (some ⟨g, 0, none⟩)) (by kernel_rfl) ?_
  simp only [Act.put, List.setIfInBounds_toArray, List.set_cons_succ, List.set_cons_zero]
  refine gw_val (by kernel_rfl) (some 6) rfl (.pointer (some ⟨g, 0, none⟩)) (by kernel_rfl) ?_
  simp only [Act.put, List.setIfInBounds_toArray, List.set_cons_succ, List.set_cons_zero]
  refine gw_val (by kernel_rfl) (some 7) rfl (.pointer (some ⟨g, 0, none⟩)) (by kernel_rfl) ?_
  simp only [Act.put, List.setIfInBounds_toArray, List.set_cons_succ, List.set_cons_zero]
  refine gw_load (by kernel_rfl) (some 8) rfl 35 (.tmp 7) rfl ⟨g, 0, none⟩ (.slice d.ka n d.kc) (by kernel_rfl) (HL.out) ?_
  simp only [Act.put, List.setIfInBounds_toArray, List.set_cons_succ, List.set_cons_zero]
  refine gw_val (by kernel_rfl) (some 9) rfl (.int .i64 n) (by kernel_rfl) ?_
  simp only [Act.put, List.setIfInBounds_toArray, List.set_cons_succ, List.set_cons_zero]
  refine gw_val (by kernel_rfl) (some 2) rfl (.int .i64 n) (by kernel_rfl) ?_
  simp only [Act.put, List.setIfInBounds_toArray, List.set_cons_succ, List.set_cons_zero]
  apply wpList_nil
  go_wp2_with fail
  go_ret
  exact ⟨rfl, rfl⟩
theorem n_len (w : World) : Calls Try.prog 21 #[.pointer none] w fun e w' => e = .returned (.int .i64 0) ∧ w = w' := by
  go_enter Try.func21, Try.ntmps21
  go_upto_region 1 with fail
  apply wp_region_lit
  refine gw_val (by kernel_rfl) (some 3) rfl (.pointer none) (by kernel_rfl) ?_
  simp only [Act.put, List.setIfInBounds_toArray, List.set_cons_succ, List.set_cons_zero]
  refine gw_val (by kernel_rfl) (some 4) rfl (.bool true) (by kernel_rfl) ?_
  simp only [Act.put, List.setIfInBounds_toArray, List.set_cons_succ, List.set_cons_zero]
  apply wpList_nil
  go_upto_region 2 with fail
  apply wp_region_lit
  refine gw_val (by kernel_rfl) (some 2) rfl (.int .i64 0) (by kernel_rfl) ?_
  simp only [Act.put, List.setIfInBounds_toArray, List.set_cons_succ, List.set_cons_zero]
  apply wpList_nil
  go_wp2_with fail
  go_ret
  exact ⟨rfl, rfl⟩
set_option maxRecDepth 100000 in
set_option maxHeartbeats 4000000 in
theorem q_peek0 {g : Nat} {d : Hd} {f : Int → Option Int} {w : World} (h : Mh w g d f) (h0 : d.A.length = 0) : Calls Try.prog 20 #[.pointer (some ⟨g, 0, none⟩)] w fun e w' => e = .returned (.tuple #[.agg (itA zIt), .bool false]) ∧ Gd w w' := by
  obtain ⟨hb, hX⟩ := box_z w
  have HLEN := Lib.hid (by
    have := q_len (h.below hb.1)
    rw [h0] at this
    exact this : Calls Try.prog 21 #[.pointer (some ⟨g, 0, none⟩)] (w.alloc (.cells (itA zIt) 24)) fun e w' => e = .returned (.int .i64 0) ∧ w.alloc (.cells (itA zIt) 24) = w')
  clear h h0
  go_enter Try.func20, Try.ntmps20
  go_upto_region 1 with fail
  change Code.wp _ _ _ _ (w.alloc (.cells (itA zIt) 24))
  generalize w.alloc (.cells (itA zIt) 24) = W at *
  obtain ⟨g0, hg0⟩ : ∃ g0, w.heap.size = g0 := ⟨_, rfl⟩
  rw [hg0] at hX ⊢
  have HG0 := Lib.hid hg0
  have HB := Lib.hid hb
  clear hg0 hb
  apply wp_region_lit
  refine gw_val (by kernel_rfl) (some 4) rfl (.pointer (some ⟨g, 0, none⟩)) (by kernel_rfl) ?_
  simp only [Act.put, List.setIfInBounds_toArray, List.set_cons_succ, List.set_cons_zero]
  refine gw_call (by kernel_rfl) (some 5) rfl 21 #[.pointer (some ⟨g, 0, none⟩)] (.int .i64 0) (fun w9 => W = w9) (by kernel_rfl) HLEN.out (fun w9 h9 => ?_)
  subst h9
  simp only [Act.put, List.setIfInBounds_toArray, List.set_cons_succ, List.set_cons_zero]
  refine gw_val (by kernel_rfl) (some 6) rfl (.bool true) (by kernel_rfl) ?_
  simp only [Act.put, List.setIfInBounds_toArray, List.set_cons_succ, List.set_cons_zero]
  apply wpList_nil
  go_upto_region 2 with fail
  obtain ⟨hs, hX2⟩ := store_box (y := zIt) hX
  have HE := Lib.hid (HB.out.set (Nat.le_of_eq HG0.out) (itA zIt))
  have HX2 := Lib.hid hX2
  clear hX hX2
  apply wp_region_lit
  refine gw_val (by kernel_rfl) (some 7) rfl (.agg (itA zIt)) (by kernel_rfl) ?_
  simp only [Act.put, List.setIfInBounds_toArray, List.set_cons_succ, List.set_cons_zero]
  refine gw_store (by kernel_rfl) rfl 24 (.tmp 2) (.tmp 7) rfl (.pointer (some ⟨g0, 0, none⟩)) (.agg (itA zIt)) (by kernel_rfl) (by kernel_rfl) (W.setRow g0 (itA zIt)) (hs) ?_
  refine gw_val (by kernel_rfl) (some 3) rfl (.bool false) (by kernel_rfl) ?_
  simp only [Act.put, List.setIfInBounds_toArray, List.set_cons_succ, List.set_cons_zero]
  apply wpList_nil
  generalize W.setRow g0 (itA zIt) = V at *
  clear hs HLEN HB
  go_wp2_with fail
  exact bodyPost_ret (results_ib (p := 2) (q := 3) rfl (by kernel_rfl) (load_box HX2.out) rfl) rfl ⟨rfl, HE.out⟩
set_option maxRecDepth 100000 in
set_option maxHeartbeats 4000000 in
theorem q_peek1 {g : Nat} {d : Hd} {f : Int → Option Int} {w : World} (h : Mh w g d f) (h0 : 0 < d.A.length) : Calls Try.prog 20 #[.pointer (some ⟨g, 0, none⟩)] w fun e w' => e = .returned (.tuple #[.agg (itA (ita d.A 0)), .bool true]) ∧ Gd w w' := by
  obtain ⟨hb, hX⟩ := box_z w
  have hW := h.below hb.1
  obtain ⟨b, hka⟩ := h.addr h0
  have HLEN := Lib.hid (q_len hW)
  have HLD := Lib.hid (hW.ldb hka)
  have HIT := Lib.hid (hW.item hka h0)
  obtain ⟨n, hn⟩ : ∃ n, d.A.length = n := ⟨_, rfl⟩
  rw [hn] at HLEN HLD h0
  generalize ita d.A 0 = x at *
  have HD : Hid (decide ((n : Int) = 0) = false) := Lib.hid (decide_eq_false (by omega))
  clear h hW hka hn
  go_enter Try.func20, Try.ntmps20
  go_upto_region 1 with fail
  change Code.wp _ _ _ _ (w.alloc (.cells (itA zIt) 24))
  generalize w.alloc (.cells (itA zIt) 24) = W at *
  obtain ⟨g0, hg0⟩ : ∃ g0, w.heap.size = g0 := ⟨_, rfl⟩
  rw [hg0] at hX ⊢
  have HG0 := Lib.hid hg0
  have HB := Lib.hid hb
  clear hg0 hb
  apply wp_region_lit
  refine gw_val (by kernel_rfl) (some 4) rfl (.pointer (some ⟨g, 0, none⟩)) (by kernel_rfl) ?_
  simp only [Act.put, List.setIfInBounds_toArray, List.set_cons_succ, List.set_cons_zero]
  refine gw_call (by kernel_rfl) (some 5) rfl 21 #[.pointer (some ⟨g, 0, none⟩)] (.int .i64 n) (fun w9 => W = w9) (by kernel_rfl) HLEN.out (fun w9 h9 => ?_)
  subst h9
  simp only [Act.put, List.setIfInBounds_toArray, List.set_cons_succ, List.set_cons_zero]
  refine gw_val (by kernel_rfl) (some 6) rfl (.bool false) (by rw [← HD.out]; exact eq_i rfl n 0 (by kernel_rfl) (by kernel_rfl) _) ?_
  simp only [Act.put, List.setIfInBounds_toArray, List.set_cons_succ, List.set_cons_zero]
  apply wpList_nil
  go_upto_region 3 with fail
  obtain ⟨hs, hX2⟩ := store_box (y := x) hX
  have HE := Lib.hid (HB.out.set (Nat.le_of_eq HG0.out) (itA x))
  have HX2 := Lib.hid hX2
  clear hX hX2
  apply wp_region_lit
  refine gw_val (by kernel_rfl) (some 8) rfl (.pointer (some ⟨g, 0, none⟩)) (by kernel_rfl) ?_
  simp only [Act.put, List.setIfInBounds_toArray, List.set_cons_succ, List.set_cons_zero]
  refine gw_val (by kernel_rfl) (some 9) rfl (.pointer (some ⟨g, 0, none⟩)) (by kernel_rfl) ?_
  simp only [Act.put, List.setIfInBounds_toArray, List.set_cons_succ, List.set_cons_zero]
  refine gw_val (by kernel_rfl) (some 10) rfl (.pointer (some ⟨g, 0, none⟩)) (by kernel_rfl) ?_
  simp only [Act.put, List.setIfInBounds_toArray, List.set_cons_succ, List.set_cons_zero]
  refine gw_load (by kernel_rfl) (some 11) rfl 35 (.tmp 10) rfl ⟨g, 0, none⟩ (.slice (some ⟨b, 0, none⟩) n d.kc) (by kernel_rfl) (HLD.out) ?_
  simp only [Act.put, List.setIfInBounds_toArray, List.set_cons_succ, List.set_cons_zero]
  refine gw_val (by kernel_rfl) (some 12) rfl (.pointer (some ⟨b, 0 * 3, none⟩)) (idx_it0 b n d.kc 0 h0 _ _ _ rfl (by kernel_rfl) (by kernel_rfl)) ?_
  simp only [Act.put, List.setIfInBounds_toArray, List.set_cons_succ, List.set_cons_zero]
  refine gw_load (by kernel_rfl) (some 13) rfl 24 (.tmp 12) rfl ⟨b, 0 * 3, none⟩ (.agg (itA x)) (by kernel_rfl) (HIT.out) ?_
  simp only [Act.put, List.setIfInBounds_toArray, List.set_cons_succ, List.set_cons_zero]
  refine gw_store (by kernel_rfl) rfl 24 (.tmp 2) (.tmp 13) rfl (.pointer (some ⟨g0, 0, none⟩)) (.agg (itA x)) (by kernel_rfl) (by kernel_rfl) (W.setRow g0 (itA x)) (hs) ?_
  refine gw_val (by kernel_rfl) (some 3) rfl (.bool true) (by kernel_rfl) ?_
  simp only [Act.put, List.setIfInBounds_toArray, List.set_cons_succ, List.set_cons_zero]
  apply wpList_nil
  generalize W.setRow g0 (itA x) = V at *
  clear hs HLEN HB HLD HIT
  go_wp2_with fail
  exact bodyPost_ret (results_ib (p := 2) (q := 3) rfl (by kernel_rfl) (load_box HX2.out) rfl) rfl ⟨rfl, HE.out⟩
set_option maxRecDepth 100000 in
set_option maxHeartbeats 4000000 in
theorem n_peek (w : World) : Calls Try.prog 20 #[.pointer none] w fun e w' => e = .returned (.tuple #[.agg (itA zIt), .bool false]) ∧ Gd w w' := by
  obtain ⟨hb, hX⟩ := box_z w
  have HLEN := Lib.hid (n_len (w.alloc (.cells (itA zIt) 24)))
  go_enter Try.func20, Try.ntmps20
  go_upto_region 1 with fail
  change Code.wp _ _ _ _ (w.alloc (.cells (itA zIt) 24))
  generalize w.alloc (.cells (itA zIt) 24) = W at *
  obtain ⟨g0, hg0⟩ : ∃ g0, w.heap.size = g0 := ⟨_, rfl⟩
  rw [hg0] at hX ⊢
  have HG0 := Lib.hid hg0
  have HB := Lib.hid hb
  clear hg0 hb
  apply wp_region_lit
  refine gw_val (by kernel_rfl) (some 4) rfl (.pointer none) (by kernel_rfl) ?_
  simp only [Act.put, List.setIfInBounds_toArray, List.set_cons_succ, List.set_cons_zero]
  refine gw_call (by kernel_rfl) (some 5) rfl 21 #[.pointer none] (.int .i64 0) (fun w9 => W = w9) (by kernel_rfl) HLEN.out (fun w9 h9 => ?_)
  subst h9
  simp only [Act.put, List.setIfInBounds_toArray, List.set_cons_succ, List.set_cons_zero]
  refine gw_val (by kernel_rfl) (some 6) rfl (.bool true) (by kernel_rfl) ?_
  simp only [Act.put, List.setIfInBounds_toArray, List.set_cons_succ, List.set_cons_zero]
  apply wpList_nil
  go_upto_region 2 with fail
  obtain ⟨hs, hX2⟩ := store_box (y := zIt) hX
  have HE := Lib.hid (HB.out.set (Nat.le_of_eq HG0.out) (itA zIt))
  have HX2 := Lib.hid hX2
  clear hX hX2
  apply wp_region_lit
  refine gw_val (by kernel_rfl) (some 7) rfl (.agg (itA zIt)) (by kernel_rfl) ?_
  simp only [Act.put, List.setIfInBounds_toArray, List.set_cons_succ, List.set_cons_zero]
  refine gw_store (by kernel_rfl) rfl 24 (.tmp 2) (.tmp 7) rfl (.pointer (some ⟨g0, 0, none⟩)) (.agg (itA zIt)) (by kernel_rfl) (by kernel_rfl) (W.setRow g0 (itA zIt)) (hs) ?_
  refine gw_val (by kernel_rfl) (some 3) rfl (.bool false) (by kernel_rfl) ?_
  simp only [Act.put, List.setIfInBounds_toArray, List.set_cons_succ, List.set_cons_zero]
  apply wpList_nil
  generalize W.setRow g0 (itA zIt) = V at *
  clear hs HLEN HB
  go_wp2_with fail
  exact bodyPost_ret (results_ib (p := 2) (q := 3) rfl (by kernel_rfl) (load_box HX2.out) rfl) rfl ⟨rfl, HE.out⟩
set_option maxRecDepth 100000 in
set_option maxHeartbeats 4000000 in
theorem q_new (w : World) : Calls Try.prog 13 #[] w fun e w' => ∃ g d, e = .returned (.pointer (some ⟨g, 0, none⟩)) ∧ Mh w' g d (fun _ => none) ∧ d.A = [] ∧ (∀ k, Sh g d k → w.heap.size ≤ k) ∧ Below w.heap.size w w' := by
  have hW1 : Below w.heap.size w (w.alloc (.map #[] 0)) := (Below.refl _ w).alloc (Nat.le_refl _) _
  have hM1 := Mf.new w
  have hz1 : (w.alloc (.map #[] 0)).heap.size = w.heap.size + 1 := by simp
  have hb2 : Below (w.alloc (.map #[] 0)).heap.size (w.alloc (.map #[] 0)) ((w.alloc (.map #[] 0)).alloc (.cells #[.slice none 0 0, .map (some w.heap.size)] 58)) := (Below.refl _ _).alloc (Nat.le_refl _) _
  have hX2 : Bx ((w.alloc (.map #[] 0)).alloc (.cells #[.slice none 0 0, .map (some w.heap.size)] 58)) (w.alloc (.map #[] 0)).heap.size #[.slice none 0 0, .map (some w.heap.size)] 58 := heap_alloc_last _ _
  have hM2 := hM1.same (hb2.block _ hM1.lt)
  have HE : Hid (Mh ((w.alloc (.map #[] 0)).alloc (.cells #[.slice none 0 0, .map (some w.heap.size)] 58)) (w.alloc (.map #[] 0)).heap.size ⟨w.heap.size, none, 0, []⟩ (fun _ => none) ∧ (∀ k, Sh (w.alloc (.map #[] 0)).heap.size ⟨w.heap.size, none, 0, []⟩ k → w.heap.size ≤ k)) := Lib.hid ⟨⟨hX2, hM2, ⟨rfl, .inl ⟨rfl, rfl⟩⟩, fun i j k hi hj => by
      rw [hz1] at hi hj
      match i, j, hi, hj with
      | 0, 0, _, _ => rfl
      | 1, 1, _, _ => rfl
      | 0, 1, h1, h2 =>
        have h1 : k = w.heap.size + 1 := h1
        have h2 : k = w.heap.size := h2
        omega
      | 1, 0, h1, h2 =>
        have h1 : k = w.heap.size := h1
        have h2 : k = w.heap.size + 1 := h2
        omega
      | 2, _, ⟨x, hx, _⟩, _ => cases hx
      | 0, 2, _, ⟨x, hx, _⟩ => cases hx
      | 1, 2, _, ⟨x, hx, _⟩ => cases hx
      | _ + 3, _, h1, _ => exact h1.elim
      | 0, _ + 3, _, h2 => exact h2.elim
      | 1, _ + 3, _, h2 => exact h2.elim⟩, fun k hk => by
      rw [hz1] at hk
      obtain ⟨i, hi⟩ := hk
      match i, hi with
      | 0, h1 =>
        have h1 : k = w.heap.size + 1 := h1
        omega
      | 1, h1 =>
        have h1 : k = w.heap.size := h1
        omega
      | 2, ⟨x, hx, _⟩ => cases hx
      | _ + 3, h1 => exact h1.elim⟩
  have HB := Lib.hid (hW1.trans (hb2.mono hW1.size))
  clear hW1 hM1 hb2 hX2 hM2
  go_enter Try.func13, Try.ntmps13
  go_upto_region 1 with fail
  apply wp_region_lit
  refine gw_new (by kernel_rfl) (some 1) rfl (.map (some w.heap.size)) (w.alloc (.map #[] 0)) (ex_new 56 rfl) ?_
  simp only [Act.put, List.setIfInBounds_toArray, List.set_cons_succ, List.set_cons_zero]
  refine gw_val (by kernel_rfl) (some 2) rfl (.agg #[.slice none 0 0, .map (some w.heap.size)]) (by kernel_rfl) ?_
  simp only [Act.put, List.setIfInBounds_toArray, List.set_cons_succ, List.set_cons_zero]
  refine gw_new (by kernel_rfl) (some 3) rfl (.pointer (some ⟨(w.alloc (.map #[] 0)).heap.size, 0, none⟩)) ((w.alloc (.map #[] 0)).alloc (.cells #[.slice none 0 0, .map (some w.heap.size)] 58)) (by kernel_rfl) ?_
  simp only [Act.put, List.setIfInBounds_toArray, List.set_cons_succ, List.set_cons_zero]
  refine gw_val (by kernel_rfl) (some 0) rfl (.pointer (some ⟨(w.alloc (.map #[] 0)).heap.size, 0, none⟩)) (by kernel_rfl) ?_
  simp only [Act.put, List.setIfInBounds_toArray, List.set_cons_succ, List.set_cons_zero]
  apply wpList_nil
  clear hz1
  generalize (w.alloc (.map #[] 0)).alloc (.cells #[.slice none 0 0, .map (some w.heap.size)] 58) = V at *
  generalize (w.alloc (.map #[] 0)).heap.size = g at *
  go_wp2_with fail
  go_ret
  exact ⟨g, _, rfl, HE.out.1, rfl, HE.out.2, HB.out⟩
end Go.Proofs.Ytepdibnbnhkpnaa
