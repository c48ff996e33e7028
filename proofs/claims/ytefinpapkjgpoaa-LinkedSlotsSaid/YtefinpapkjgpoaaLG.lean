/-
  The contract of the reference's without: a list of elements but one.
-/
import Derived.Test.YtefinpapkjgpoaaLF
namespace Go.Proofs.Ytefinpapkjgpoaa
open Go.RowKit
set_option linter.unusedSimpArgs false
set_option linter.unusedVariables false

theorem without_len (E : List (Int × Int)) (i : Nat) (h : i < E.length) : (without E i).length = E.length - 1 := by
  unfold without
  rw [List.length_append, List.length_take, List.length_drop]
  omega
/-- What the region keeps: x: the empty row, y: the first part, z: the whole. -/
structure WF (w : World) (E : List (Int × Int)) (i : Nat) (b0 b4 b9 b10 : Bool) (x y z : Value) (V : World) : Prop where
  base : Below w.heap.size w V
  nil : b0 = true → b4 = false → V.ownsRow w.heap.size 40 2 x 0 []
  one : b4 = true → b9 = false → V.ownsRow w.heap.size 40 2 y i (ecells (E.take i))
  two : b9 = true → V.ownsRow w.heap.size 40 2 z (E.length - 1) (ecells (without E i))
  asg : b10 = true → b9 = true
  seq : b9 = true → b4 = true
theorem WF.start (w : World) (E : List (Int × Int)) (i : Nat) (x y z : Value) : WF w E i false false false false x y z { w with drawn := w.drawn + 1 } :=
  ⟨(Below.refl _ w).drew, fun h => (by cases h), fun h => (by cases h), fun h => (by cases h), fun h => (by cases h), fun h => (by cases h)⟩
section
variable {w V V2 : World} {E : List (Int × Int)} {i : Nat} {b0 b4 b9 b10 : Bool} {x y z v : Value}
theorem WF.made (h : WF w E i b0 b4 b9 b10 x y z V) : WF w E i true b4 b9 b10 (.slice (some ⟨V.heap.size, 0, none⟩) 0 0) y z (V.alloc (.cells #[] 40)) :=
  have hb : Below V.heap.size V (V.alloc (.cells #[] 40)) := (Below.refl _ V).alloc (Nat.le_refl _) _
  { base := h.base.trans (hb.mono h.base.size)
    nil := fun _ _ => own_base (own_nil V 40 2) h.base.size
    one := fun h1 h2 => own_below (h.one h1 h2) hb
    two := fun h1 => own_below (h.two h1) hb
    asg := h.asg
    seq := h.seq }
theorem WF.part (h : WF w E i true false b9 b10 x y z V) (h9 : b9 = false) (hO : V2.ownsRow w.heap.size 40 2 v i (ecells (E.take i))) (hb : Below w.heap.size V V2) : WF w E i true true b9 b10 x v z V2 :=
  { base := h.base.trans hb
    nil := fun _ h2 => by cases h2
    one := fun _ _ => hO
    two := fun h1 => by rw [h9] at h1; cases h1
    asg := h.asg
    seq := fun _ => rfl }
theorem WF.whole (h : WF w E i b0 true false b10 x y z V) (hO : V2.ownsRow w.heap.size 40 2 v (E.length - 1) (ecells (without E i))) (hb : Below w.heap.size V V2) : WF w E i b0 true true b10 x y v V2 :=
  { base := h.base.trans hb
    nil := fun _ h2 => by cases h2
    one := fun _ h2 => by cases h2
    two := fun _ => hO
    asg := fun _ => rfl
    seq := fun _ => rfl }
theorem WF.set (h : WF w E i b0 b4 true b10 x y z V) : WF w E i b0 b4 true true x y z V := { h with asg := fun _ => rfl }
end

set_option maxRecDepth 100000 in
set_option maxHeartbeats 2000000 in
theorem ref_without (E : List (Int × Int)) (a : Option Addr) (c i : Nat) (w : World) (hE : Cs w a (ecells E)) (hc : E.length ≤ c) (hn : E.length ≤ 1000) (hi : i < E.length) :
    Calls Try.prog 40 #[.slice a E.length c, .int .i64 i] w fun e w' => ∃ v, e = .returned v ∧ w'.ownsRow w.heap.size 40 2 v (E.length - 1) (ecells (without E i)) ∧ Below w.heap.size w w' := by
  have HT : Hid ((E.take i).length = i) := Lib.hid (by rw [List.length_take]; omega)
  have HD : Hid ((E.drop (i + 1)).length = E.length - (i + 1)) := Lib.hid (by rw [List.length_drop])
  have HE := Lib.hid hE
  obtain ⟨n, hnn⟩ : ∃ n, E.length = n := ⟨_, rfl⟩
  have HN := Lib.hid hnn
  rw [hnn] at hc hn hi HD
  rw [show (Value.slice a E.length c) = .slice a n c by rw [hnn]]
  clear hE hnn
  go_enter Try.func40, Try.ntmps40
  go_upto_region 1 with fail
  have h0 := WF.start w E i undef undef undef
  refine wp_region_inv (fun listed act9 V => ∃ b0 b1 b2 b3 b4 b5 b6 b7 b8 b9 b10 : Bool, ∃ x5 x9 x14 : Value, listed = #[b0, b1, b2, b3, b4, b5, b6, b7, b8, b9, b10] ∧ act9 = { tmps := #[.slice a n c, .int .i64 i, undef, undef, (cond b10 (x14) (.slice none 0 0)), x5, (cond b1 (.slice a n c) undef), (cond b2 (.int .i64 i) undef), (cond b3 (.slice a i c) undef), x9, (cond b5 (.slice a n c) undef), (cond b6 (.int .i64 i) undef), (cond b7 (.int .i64 (i + 1 : Nat)) undef), (cond b8 (.slice (fromS 2 a c (i + 1)) (n - (i + 1)) (c - (i + 1))) undef), x14], defers := [] } ∧ WF w E i b0 b4 b9 b10 x5 x9 x14 V) (by kernel_rfl) (by kernel_rfl) ?_ ?_ ?_
  · exact ⟨false, false, false, false, false, false, false, false, false, false, false, undef, undef, undef, rfl, rfl, h0⟩
  · intro i9 listed act9 V hi hr hJ
    obtain ⟨b0, b1, b2, b3, b4, b5, b6, b7, b8, b9, b10, x5, x9, x14, rfl, rfl, hF⟩ := hJ
    have hi2 : i9 < 11 := hi
    have hi3 : i9 = 0 ∨ i9 = 1 ∨ i9 = 2 ∨ i9 = 3 ∨ i9 = 4 ∨ i9 = 5 ∨ i9 = 6 ∨ i9 = 7 ∨ i9 = 8 ∨ i9 = 9 ∨ i9 = 10 := by omega
    rcases hi3 with rfl | rfl | rfl | rfl | rfl | rfl | rfl | rfl | rfl | rfl | rfl
    · obtain rfl : b0 = false := ready_self hr
      refine st_build rfl (by kernel_rfl) (some 5) rfl 26 0 #[] rfl #[] (by kernel_rfl) (.slice (some ⟨V.heap.size, 0, none⟩) 0 0) _ (nil_el V) ?_
      exact ⟨true, b1, b2, b3, b4, b5, b6, b7, b8, b9, b10, _, x9, x14, rfl, rfl, hF.made⟩
    · obtain rfl : b1 = false := ready_self hr
      refine st_val rfl (by kernel_rfl) (some 6) rfl (.slice a n c) V (by kernel_rfl) ?_
      exact ⟨b0, true, b2, b3, b4, b5, b6, b7, b8, b9, b10, x5, x9, x14, rfl, rfl, hF⟩
    · obtain rfl : b2 = false := ready_self hr
      refine st_val rfl (by kernel_rfl) (some 7) rfl (.int .i64 i) V (by kernel_rfl) ?_
      exact ⟨b0, b1, true, b3, b4, b5, b6, b7, b8, b9, b10, x5, x9, x14, rfl, rfl, hF⟩
    · obtain rfl : b3 = false := ready_self hr
      obtain rfl : b1 = true := ready_dep hr 1 (by kernel_rfl)
      obtain rfl : b2 = true := ready_dep hr 2 (by kernel_rfl)
      refine st_slice_to rfl (by kernel_rfl) (some 8) rfl 26 (.tmp 6) (.tmp 7) rfl (.slice a n c) (.int .i64 i) (.slice a i c) (by kernel_rfl) (by kernel_rfl) (cut_el_to a n c i V (by omega)) ?_
      exact ⟨b0, true, true, true, b4, b5, b6, b7, b8, b9, b10, x5, x9, x14, rfl, rfl, hF⟩
    · obtain rfl : b4 = false := ready_self hr
      obtain rfl : b0 = true := ready_dep hr 0 (by kernel_rfl)
      obtain rfl : b3 = true := ready_dep hr 3 (by kernel_rfl)
      obtain rfl : b9 = false := by cases b9; rfl; exact absurd (hF.seq rfl) (by decide)
      have hO := hF.nil rfl rfl
      obtain ⟨v, V2, hap, hO2, hb2, -⟩ := append_el hO a c (E.take i) (by rw [← ecells_take]; exact (HE.out.below hF.base).take _) HT.out hF.base.size (by omega) (by omega)
      rw [List.nil_append, Nat.zero_add] at hO2
      refine st_append rfl (by kernel_rfl) (some 9) rfl 26 rfl (.tmp 5) (.tmp 8) 26 rfl x5 (.slice a i c) v V2 (by kernel_rfl) (by kernel_rfl) hap ?_
      exact ⟨true, b1, b2, true, true, b5, b6, b7, b8, false, b10, x5, v, x14, rfl, rfl, hF.part rfl hO2 hb2⟩
    · obtain rfl : b5 = false := ready_self hr
      refine st_val rfl (by kernel_rfl) (some 10) rfl (.slice a n c) V (by kernel_rfl) ?_
      exact ⟨b0, b1, b2, b3, b4, true, b6, b7, b8, b9, b10, x5, x9, x14, rfl, rfl, hF⟩
    · obtain rfl : b6 = false := ready_self hr
      refine st_val rfl (by kernel_rfl) (some 11) rfl (.int .i64 i) V (by kernel_rfl) ?_
      exact ⟨b0, b1, b2, b3, b4, b5, true, b7, b8, b9, b10, x5, x9, x14, rfl, rfl, hF⟩
    · obtain rfl : b7 = false := ready_self hr
      obtain rfl : b6 = true := ready_dep hr 6 (by kernel_rfl)
      refine st_val rfl (by kernel_rfl) (some 12) rfl (.int .i64 (i + 1 : Nat)) V (add_one rfl i (by omega) (by kernel_rfl) V) ?_
      exact ⟨b0, b1, b2, b3, b4, b5, true, true, b8, b9, b10, x5, x9, x14, rfl, rfl, hF⟩
    · obtain rfl : b8 = false := ready_self hr
      obtain rfl : b5 = true := ready_dep hr 5 (by kernel_rfl)
      obtain rfl : b7 = true := ready_dep hr 7 (by kernel_rfl)
      refine st_slice_from rfl (by kernel_rfl) (some 13) rfl 26 (.tmp 10) (.tmp 12) rfl (.slice a n c) (.int .i64 (i + 1 : Nat)) (.slice (fromS 2 a c (i + 1)) (n - (i + 1)) (c - (i + 1))) (by kernel_rfl) (by kernel_rfl) (cut_el_from a n c (i + 1) V (by omega)) ?_
      exact ⟨b0, b1, b2, b3, b4, true, b6, true, true, b9, b10, x5, x9, x14, rfl, rfl, hF⟩
    · obtain rfl : b9 = false := ready_self hr
      obtain rfl : b4 = true := ready_dep hr 4 (by kernel_rfl)
      obtain rfl : b8 = true := ready_dep hr 8 (by kernel_rfl)
      obtain rfl : b10 = false := by cases b10; rfl; exact absurd (hF.asg rfl) (by decide)
      have hO := hF.one rfl rfl
      obtain ⟨v, V2, hap, hO2, hb2, -⟩ := append_el hO (fromS 2 a c (i + 1)) (c - (i + 1)) (E.drop (i + 1)) (by rw [← ecells_drop]; exact (HE.out.below hF.base).from 2 c (i + 1) (by rw [ecells_len, HN.out]; omega)) HD.out hF.base.size (by omega) (by omega)
      rw [← ecells_app, show E.take i ++ E.drop (i + 1) = without E i from rfl, show i + (n - (i + 1)) = E.length - 1 by rw [HN.out]; omega] at hO2
      refine st_append rfl (by kernel_rfl) (some 14) rfl 26 rfl (.tmp 9) (.tmp 13) 26 rfl x9 (.slice (fromS 2 a c (i + 1)) (n - (i + 1)) (c - (i + 1))) v V2 (by kernel_rfl) (by kernel_rfl) hap ?_
      exact ⟨b0, b1, b2, b3, true, b5, b6, b7, true, true, false, x5, x9, v, rfl, rfl, hF.whole hO2 hb2⟩
    · obtain rfl : b10 = false := ready_self hr
      obtain rfl : b0 = true := ready_dep hr 0 (by kernel_rfl)
      obtain rfl : b1 = true := ready_dep hr 1 (by kernel_rfl)
      obtain rfl : b2 = true := ready_dep hr 2 (by kernel_rfl)
      obtain rfl : b3 = true := ready_dep hr 3 (by kernel_rfl)
      obtain rfl : b4 = true := ready_dep hr 4 (by kernel_rfl)
      obtain rfl : b5 = true := ready_dep hr 5 (by kernel_rfl)
      obtain rfl : b6 = true := ready_dep hr 6 (by kernel_rfl)
      obtain rfl : b7 = true := ready_dep hr 7 (by kernel_rfl)
      obtain rfl : b8 = true := ready_dep hr 8 (by kernel_rfl)
      obtain rfl : b9 = true := ready_dep hr 9 (by kernel_rfl)
      refine st_val rfl (by kernel_rfl) (some 4) rfl x14 V (by kernel_rfl) ?_
      exact ⟨true, true, true, true, true, true, true, true, true, true, true, x5, x9, x14, rfl, rfl, hF.set⟩
  · intro act9 V hJ
    obtain ⟨b0, b1, b2, b3, b4, b5, b6, b7, b8, b9, b10, x5, x9, x14, he, rfl, hF⟩ := hJ
    have he : (#[true, true, true, true, true, true, true, true, true, true, true] : Array Bool) = #[b0, b1, b2, b3, b4, b5, b6, b7, b8, b9, b10] := he
    simp only [Array.mk.injEq, List.cons.injEq, and_true] at he
    obtain ⟨rfl, rfl, rfl, rfl, rfl, rfl, rfl, rfl, rfl, rfl, rfl⟩ := he
    simp only [cond_true]
    have HO := Lib.hid (hF.two rfl)
    have HB := Lib.hid hF.base
    clear hF HE h0
    go_wp2_with fail
    go_ret
    exact ⟨_, rfl, HO.out, HB.out⟩
end Go.Proofs.Ytefinpapkjgpoaa
