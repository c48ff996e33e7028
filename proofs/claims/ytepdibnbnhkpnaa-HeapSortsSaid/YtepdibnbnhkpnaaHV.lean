/-
  The program's heap: Sorted.
-/
import Derived.Test.YtepdibnbnhkpnaaHU
namespace Go.Proofs.Ytepdibnbnhkpnaa
open Go.RowKit
set_option linter.unusedSimpArgs false
set_option linter.unusedVariables false

/-- A copy of a row, sorted. -/
theorem copy_sort {g : Nat} {d : Hd} {f : Int → Option Int} {w : World} (h : Mh w g d f) {M : List It} (hp : d.A.Perm M) (hs : M.Pairwise fun a b => bf a b = true) (hl : d.A.length ≤ 90000) : ∃ a c W1, (Builtin.append_ #[35, 35] 35 #[.slice none 0 0, .slice d.ka d.A.length d.kc]).run Try.prog w = .ok (.slice a d.A.length c) W1 ∧ d.A.length ≤ c ∧
    Calls Try.prog 29 #[.slice a d.A.length c, .func (.func 25) #[] #[]] W1 fun e w' => e = .returned (.tuple #[]) ∧ Cs w' a (itc M) ∧ Below w.heap.size w w' := by
  obtain ⟨v', W1, hr, hO, hb, -⟩ := append_cs (P := Try.prog) (t := 35) (B := w.heap.size) (v := .slice none 0 0) (n := 0) (xs := []) Try.underlying35 infoX (by kernel_rfl) (by omega) (by omega) ⟨rfl, .inl ⟨rfl, rfl⟩⟩ d.ka d.kc (itc d.A) h.cs (itc_len _) (itc_one _) (Nat.le_refl _) (by omega) (by omega)
  rw [Nat.zero_add, List.nil_append] at hO
  obtain ⟨a, c, rfl, hcs, hc⟩ := own_cs hO
  refine ⟨a, c, W1, hr, hc, ?_⟩
  rcases hO.2 with ⟨e, h0⟩ | ⟨g2, cap, cur, e, hB, -⟩
  · simp only [Value.slice.injEq] at e
    obtain ⟨rfl, -, rfl⟩ := e
    have hM : M = [] := List.eq_nil_of_length_eq_zero (by rw [← hp.length_eq]; exact h0)
    rw [h0]
    exact (sort_none none 0 _ W1).mono fun e w' q => ⟨q.1, by rw [hM]; exact Cs.nil _ _, by rw [q.2]; exact hb⟩
  · simp only [Value.slice.injEq, true_and] at e
    obtain ⟨rfl, rfl⟩ := e
    exact (sort_any hO hb.size hB hp hs (by omega)).mono fun e w' q => ⟨q.1, q.2.1, hb.trans q.2.2⟩
set_option maxRecDepth 100000 in
set_option maxHeartbeats 4000000 in
theorem q_sorted {g : Nat} {d : Hd} {f : Int → Option Int} {w : World} (h : Mh w g d f) {M : List It} (hp : d.A.Perm M) (hs : M.Pairwise fun a b => bf a b = true) (hl : d.A.length ≤ 90000) : Calls Try.prog 23 #[.pointer (some ⟨g, 0, none⟩)] w fun e w' => ∃ a c, e = .returned (.slice a M.length c) ∧ Cs w' a (itc M) ∧ M.length ≤ c ∧ Below w.heap.size w w' := by
  obtain ⟨a, c, W1, hap, hc, hso⟩ := copy_sort h hp hs hl
  have HL := Lib.hid h.ld0
  rw [hp.length_eq] at hap hc hso HL
  obtain ⟨n, hn⟩ : ∃ n, M.length = n := ⟨_, rfl⟩
  rw [hn] at hap hc hso HL ⊢
  have HSO := Lib.hid hso
  clear h hp hs hl hn hso
  go_enter Try.func23, Try.ntmps23
  go_upto_region 1 with fail
  apply wp_region_lit
  refine gw_val (by kernel_rfl) (some 4) rfl (.pointer (some ⟨g, 0, none⟩)) (by kernel_rfl) ?_
  simp only [Act.put, List.setIfInBounds_toArray, List.set_cons_succ, List.set_cons_zero]
  refine gw_val (by kernel_rfl) (some 5) rfl (.bool false) (by kernel_rfl) ?_
  simp only [Act.put, List.setIfInBounds_toArray, List.set_cons_succ, List.set_cons_zero]
  apply wpList_nil
  go_upto_region 3 with fail
  apply wp_region_lit
  refine gw_val (by kernel_rfl) (some 6) rfl (.pointer (some ⟨g, 0, none⟩)) (by kernel_rfl) ?_
  simp only [Act.put, List.setIfInBounds_toArray, List.set_cons_succ, List.set_cons_zero]
  refine gw_val (by kernel_rfl) (some 7) rfl (.pointer (some ⟨g, 0, none⟩)) (by kernel_rfl) ?_
  simp only [Act.put, List.setIfInBounds_toArray, List.set_cons_succ, List.set_cons_zero]
  refine gw_val (by kernel_rfl) (some 8) rfl (.pointer (some ⟨g, 0, none⟩)) (by kernel_rfl) ?_
  simp only [Act.put, List.setIfInBounds_toArray, List.set_cons_succ, List.set_cons_zero]
  refine gw_load (by kernel_rfl) (some 9) rfl 35 (.tmp 8) rfl ⟨g, 0, none⟩ (.slice d.ka n d.kc) (by kernel_rfl) (HL.out) ?_
  simp only [Act.put, List.setIfInBounds_toArray, List.set_cons_succ, List.set_cons_zero]
  refine append_step rfl (some 10) rfl 35 rfl (.const (.slice none 0 0)) (.tmp 9) 35 rfl (.slice none 0 0) (.slice d.ka n d.kc) (.slice a n c) W1 (by kernel_rfl) (by kernel_rfl) hap ?_
  simp only [Act.put, List.setIfInBounds_toArray, List.set_cons_succ, List.set_cons_zero]
  refine gw_val (by kernel_rfl) (some 3) rfl (.slice a n c) (by kernel_rfl) ?_
  simp only [Act.put, List.setIfInBounds_toArray, List.set_cons_succ, List.set_cons_zero]
  apply wpList_nil
  clear hap HL
  go_upto_region 4 with fail
  apply wp_region_lit
  refine gw_val (by kernel_rfl) (some 11) rfl (.slice a n c) (by kernel_rfl) ?_
  simp only [Act.put, List.setIfInBounds_toArray, List.set_cons_succ, List.set_cons_zero]
  refine gw_call (by kernel_rfl) (some 12) rfl 29 #[.slice a n c, .func (.func 25) #[] #[]] (.tuple #[]) (fun w' => Cs w' a (itc M) ∧ Below w.heap.size w w') (by kernel_rfl) HSO.out (fun V2 hV2 => ?_)
  simp only [Act.put, List.setIfInBounds_toArray, List.set_cons_succ, List.set_cons_zero]
  apply wpList_nil
  have HV := Lib.hid hV2
  clear hV2 HSO
  go_upto_region 5 with fail
  apply wp_region_lit
  refine gw_val (by kernel_rfl) (some 13) rfl (.slice a n c) (by kernel_rfl) ?_
  simp only [Act.put, List.setIfInBounds_toArray, List.set_cons_succ, List.set_cons_zero]
  refine gw_val (by kernel_rfl) (some 2) rfl (.slice a n c) (by kernel_rfl) ?_
  simp only [Act.put, List.setIfInBounds_toArray, List.set_cons_succ, List.set_cons_zero]
  apply wpList_nil
  go_wp2_with fail
  go_ret
  exact ⟨a, c, rfl, HV.out.1, hc, HV.out.2⟩
theorem n_sorted (w : World) : Calls Try.prog 23 #[.pointer none] w fun e w' => ∃ a c, e = .returned (.slice a 0 c) ∧ w = w' := by
  go_enter Try.func23, Try.ntmps23
  go_upto_region 1 with fail
  apply wp_region_lit
  refine gw_val (by kernel_rfl) (some 4) rfl (.pointer none) (by kernel_rfl) ?_
  simp only [Act.put, List.setIfInBounds_toArray, List.set_cons_succ, List.set_cons_zero]
  refine gw_val (by kernel_rfl) (some 5) rfl (.bool true) (by kernel_rfl) ?_
  simp only [Act.put, List.setIfInBounds_toArray, List.set_cons_succ, List.set_cons_zero]
  apply wpList_nil
  go_upto_region 2 with fail
  apply wp_region_lit
  refine gw_val (by kernel_rfl) (some 2) rfl (.slice none 0 0) (by kernel_rfl) ?_
  simp only [Act.put, List.setIfInBounds_toArray, List.set_cons_succ, List.set_cons_zero]
  apply wpList_nil
  go_wp2_with fail
  go_ret
  exact ⟨none, 0, rfl, rfl⟩
end Go.Proofs.Ytepdibnbnhkpnaa
