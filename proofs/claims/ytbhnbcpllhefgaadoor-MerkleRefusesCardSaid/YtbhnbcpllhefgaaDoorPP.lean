/-
  The contracts of the program's pathOf and Proof.
-/
import Derived.Test.YtbhnbcpllhefgaaDoorPR
import Derived.Test.YtbhnbcpllhefgaaDoorIV
namespace Go.Proofs.YtbhnbcpllhefgaaDoor
open Go.RowKit
set_option linter.unusedSimpArgs false
set_option linter.unusedVariables false

/-- What a step of pathOf keeps, whichever of its operations are done. -/
structure PF (w : World) (p : List (List Int)) (R : List Int) (b1 b2 b3 b4 : Bool) (x y z u : Value) (V : World) : Prop where
  base : Below w.heap.size w V
  own : b1 = true → b3 = false → ∃ a1 c1, x = .slice a1 p.length c1 ∧ OwnK V w.heap.size (.slice a1 p.length c1) p
  key : b2 = true → b3 = false → ∃ g, y = .slice (some ⟨g, 0, none⟩) 1 1 ∧ Ab V g 24 R
  all : b3 = true → OwnK V w.heap.size z (p ++ [R])
  asg : b4 = true → b3 = true ∧ u = z
theorem PF.below {w V V2 : World} {p : List (List Int)} {R : List Int} {b1 b2 b3 b4 : Bool} {x y z u : Value} (h : PF w p R b1 b2 b3 b4 x y z u V) (hb : Below V.heap.size V V2) : PF w p R b1 b2 b3 b4 x y z u V2 where
  base := h.base.trans (hb.mono h.base.size)
  own := fun h1 h2 => let ⟨a1, c1, e, o⟩ := h.own h1 h2; ⟨a1, c1, e, o.below hb⟩
  key := fun h1 h2 => let ⟨g, e, o⟩ := h.key h1 h2; ⟨g, e, o.below o.lt hb⟩
  all := fun h1 => (h.all h1).below hb
  asg := h.asg
theorem PF.path {w V V2 : World} {p : List (List Int)} {R : List Int} {b1 b2 b3 b4 : Bool} {x y z u v : Value} (h : PF w p R b1 b2 b3 b4 x y z u V) (hO : OwnK V2 V.heap.size v p) (hb : Below V.heap.size V V2) : PF w p R true b2 b3 b4 v y z u V2 where
  base := (h.below hb).base
  own := fun _ _ => by
    obtain ⟨a1, c1, rfl, -, -⟩ := hO.rk
    exact ⟨a1, c1, rfl, hO.base h.base.size⟩
  key := (h.below hb).key
  all := (h.below hb).all
  asg := h.asg
theorem PF.made {w V : World} {p : List (List Int)} {R : List Int} {b1 b2 b3 b4 : Bool} {x y z u : Value} (h : PF w p R b1 b2 b3 b4 x y z u V) : PF w p R b1 true b3 b4 x (.slice (some ⟨V.heap.size, 0, none⟩) 1 1) z u (V.alloc (.cells (w8s R) 24)) :=
  have hb : Below V.heap.size V (V.alloc (.cells (w8s R) 24)) := (Below.refl _ _).alloc (Nat.le_refl _) _
  { base := (h.below hb).base, own := (h.below hb).own, key := fun _ _ => ⟨V.heap.size, rfl, heap_alloc_last V _⟩, all := (h.below hb).all, asg := h.asg }
theorem PF.done {w V V2 : World} {p : List (List Int)} {R : List Int} {b1 b2 b4 : Bool} {x y z u v : Value} (h : PF w p R b1 b2 false b4 x y z u V) (hO : OwnK V2 w.heap.size v (p ++ [R])) (hb : Below w.heap.size V V2) : PF w p R true true true b4 x y v u V2 where
  base := h.base.trans hb
  own := fun _ h => by cases h
  key := fun _ h => by cases h
  all := fun _ => hO
  asg := fun h4 => absurd (h.asg h4).1 (by decide)
theorem PF.set {w V : World} {p : List (List Int)} {R : List Int} {b1 b2 b4 : Bool} {x y z u : Value} (h : PF w p R b1 b2 true b4 x y z u V) : PF w p R b1 b2 true true x y z z V where
  base := h.base
  own := h.own
  key := h.key
  all := h.all
  asg := fun _ => ⟨rfl, rfl⟩

set_option maxRecDepth 100000 in
set_option maxHeartbeats 4000000 in
theorem pathof_step (ls : List (List Int)) (al : Option Addr) (c i : Nat) (w : World) (hG : Glob w) (hn : ls.length ≤ 1000) (hc : ls.length ≤ c) (hR : RB w al ls) (hi : i < ls.length)
    (ih : ∀ (ls2 : List (List Int)) (al2 : Option Addr) (c2 i2 : Nat) (w2 : World), ls2.length < ls.length → ls2.length ≤ c2 → RB w2 al2 ls2 → Glob w2 → i2 < ls2.length → Calls Tryd.prog 26 #[.slice al2 ls2.length c2, .int .i64 i2] w2 fun e w' => ∃ v, e = .returned v ∧ OwnK w' w2.heap.size v (pathL ls2 i2) ∧ Below w2.heap.size w2 w') :
    Calls Tryd.prog 26 #[.slice al ls.length c, .int .i64 i] w fun e w' => ∃ v, e = .returned v ∧ OwnK w' w.heap.size v (pathL ls i) ∧ Below w.heap.size w w' := by
  by_cases h1 : ls.length = 1
  · have hp := pathL_one ls i (by omega)
    rw [hp, h1]
    obtain rfl : i = 0 := by omega
    clear hp ih hR hc hn hi h1
    go_enter Tryd.func26, Tryd.ntmps26
    go_wp2_with fail
    go_ret
    exact ⟨_, rfl, OwnK.nil _ _, Below.refl _ _⟩
  · obtain ⟨k1, k2, k3⟩ := halfN_spec ls.length (by omega)
    have htl : (ls.take (halfN ls.length)).length = halfN ls.length := by rw [List.length_take]; omega
    have hdl : (ls.drop (halfN ls.length)).length = ls.length - halfN ls.length := by rw [List.length_drop]
    have CH := fun V => phalf_any ls.length V (by omega) (by omega)
    have e1 := fun V => rows_to al ls.length c (halfN ls.length) V (by omega)
    have e2 := fun V => rows_from al ls.length c (halfN ls.length) V (by omega)
    have RL := fun (V : World) (h : Below w.heap.size w V) => proot_any (ls.take (halfN ls.length)) al c V (hG.below hG.size h) (by omega) (by omega) ((hR.below h).take _)
    have RR := fun (V : World) (h : Below w.heap.size w V) => proot_any (ls.drop (halfN ls.length)) (fromA al c (halfN ls.length)) (c - halfN ls.length) V (hG.below hG.size h) (by omega) (by omega) ((hR.below h).from c _ hc)
    have bL := root_byte (ls.take (halfN ls.length))
    have bRR := root_byte (ls.drop (halfN ls.length))
    rw [htl] at RL
    rw [hdl] at RR
    have hd1 : ((ls.length : Int) == 1) = false := by
      have : ((ls.length : Nat) : Int) ≠ 1 := by omega
      exact beq_false_of_ne this
    by_cases hik : i < halfN ls.length
    · have hp := pathL_left ls i (by omega) hik
      have hpl := path_len 1000 (ls.take (halfN ls.length)) i (by omega)
      have IH := fun (V : World) (h : Below w.heap.size w V) => ih (ls.take (halfN ls.length)) al c i V (by omega) (by omega) ((hR.below h).take _) (hG.below hG.size h) (by omega)
      rw [htl] at IH
      have hd3 : decide ((i : Int) < ((halfN ls.length : Nat) : Int)) = true := decide_eq_true (by omega)
      rw [hp]
      generalize pathL (ls.take (halfN ls.length)) i = p at *
      have bR := bRR
      have RT := RR
      generalize rootL (ls.drop (halfN ls.length)) = R at *
      generalize halfN ls.length = k at *
      generalize hl : ls.length = n at *
      clear hl ih hp hR htl hdl RL bL RR bRR hG
      go_enter Tryd.func26, Tryd.ntmps26
      go_upto_region 5 with (go_at_call 23; refine (CH _).mono ?_; rintro e w1 ⟨rfl, rfl⟩)
      have h0 : PF w p R false false false false undef undef undef (.slice none 0 0) { w with drawn := w.drawn + 1 } := ⟨(Below.refl _ w).drew, fun h => (by cases h), fun h => (by cases h), fun h => (by cases h), fun h => (by cases h)⟩
      refine wp_region_inv (fun listed a V => ∃ b0 b1 b2 b3 b4 b5 b6 b7 b8 b9 b10 b11 : Bool, ∃ x19 x24 x25 x4 : Value, listed = #[b0, b1, b2, b3, b4, b5, b6, b7, b8, b9, b10, b11] ∧ a = { tmps := #[.slice al n c, .int .i64 i, undef, undef, x4, .int .i64 k, .slice al n c, .int .i64 n, .bool false, .slice al n c, .int .i64 n, .int .i64 k, .int .i64 i, .int .i64 k, .bool true, (cond b0 (.slice al n c) undef), (cond b1 (.int .i64 k) undef), (cond b2 (.slice al k c) undef), (cond b3 (.int .i64 i) undef), x19, (cond b5 (.slice al n c) undef), (cond b6 (.int .i64 k) undef), (cond b7 (.slice (fromA al c k) (n - k) (c - k)) undef), (cond b8 (.agg (w8s R)) undef), x24, x25, undef, undef, undef, undef, undef, undef, undef, undef, undef, undef, undef, undef, undef], defers := [] } ∧ PF w p R b4 b9 b10 b11 x19 x24 x25 x4 V) (by kernel_rfl) (by kernel_rfl) ?_ ?_ ?_
      · exact ⟨false, false, false, false, false, false, false, false, false, false, false, false, undef, undef, undef, .slice none 0 0, rfl, rfl, h0⟩
      · intro i listed a V hi hr hJ
        obtain ⟨b0, b1, b2, b3, b4, b5, b6, b7, b8, b9, b10, b11, x19, x24, x25, x4, rfl, rfl, hF⟩ := hJ
        have hi2 : i < 12 := hi
        have hi3 : i = 0 ∨ i = 1 ∨ i = 2 ∨ i = 3 ∨ i = 4 ∨ i = 5 ∨ i = 6 ∨ i = 7 ∨ i = 8 ∨ i = 9 ∨ i = 10 ∨ i = 11 := by omega
        rcases hi3 with rfl | rfl | rfl | rfl | rfl | rfl | rfl | rfl | rfl | rfl | rfl | rfl
        · obtain rfl : b0 = false := ready_self hr
          refine st_val rfl (by kernel_rfl) (some 15) rfl (.slice al n c) V (by kernel_rfl) ?_
          exact ⟨true, b1, b2, b3, b4, b5, b6, b7, b8, b9, b10, b11, x19, x24, x25, x4, rfl, rfl, hF⟩
        · obtain rfl : b1 = false := ready_self hr
          refine st_val rfl (by kernel_rfl) (some 16) rfl (.int .i64 k) V (by kernel_rfl) ?_
          exact ⟨b0, true, b2, b3, b4, b5, b6, b7, b8, b9, b10, b11, x19, x24, x25, x4, rfl, rfl, hF⟩
        · obtain rfl : b2 = false := ready_self hr
          obtain rfl : b0 = true := ready_dep hr 0 (by kernel_rfl)
          obtain rfl : b1 = true := ready_dep hr 1 (by kernel_rfl)
          refine st_slice_to rfl (by kernel_rfl) (some 17) rfl 22 (.tmp 15) (.tmp 16) rfl (.slice al n c) (.int .i64 k) (.slice al k c) (by kernel_rfl) (by kernel_rfl) (e1 V) ?_
          exact ⟨true, true, true, b3, b4, b5, b6, b7, b8, b9, b10, b11, x19, x24, x25, x4, rfl, rfl, hF⟩
        · obtain rfl : b3 = false := ready_self hr
          refine st_val rfl (by kernel_rfl) (some 18) rfl (.int .i64 i) V (by kernel_rfl) ?_
          exact ⟨b0, b1, b2, true, b4, b5, b6, b7, b8, b9, b10, b11, x19, x24, x25, x4, rfl, rfl, hF⟩
        · obtain rfl : b4 = false := ready_self hr
          obtain rfl : b2 = true := ready_dep hr 2 (by kernel_rfl)
          obtain rfl : b3 = true := ready_dep hr 3 (by kernel_rfl)
          refine st_call rfl (by kernel_rfl) (some 19) rfl 26 #[.slice al k c, .int .i64 i] (by kernel_rfl) ((IH V hF.base).mono ?_)
          rintro e V2 ⟨v, rfl, hO, hb⟩
          exact ⟨v, rfl, b0, b1, true, true, true, b5, b6, b7, b8, b9, b10, b11, v, x24, x25, x4, rfl, rfl, hF.path hO hb⟩
        · obtain rfl : b5 = false := ready_self hr
          refine st_val rfl (by kernel_rfl) (some 20) rfl (.slice al n c) V (by kernel_rfl) ?_
          exact ⟨b0, b1, b2, b3, b4, true, b6, b7, b8, b9, b10, b11, x19, x24, x25, x4, rfl, rfl, hF⟩
        · obtain rfl : b6 = false := ready_self hr
          refine st_val rfl (by kernel_rfl) (some 21) rfl (.int .i64 k) V (by kernel_rfl) ?_
          exact ⟨b0, b1, b2, b3, b4, b5, true, b7, b8, b9, b10, b11, x19, x24, x25, x4, rfl, rfl, hF⟩
        · obtain rfl : b7 = false := ready_self hr
          obtain rfl : b5 = true := ready_dep hr 5 (by kernel_rfl)
          obtain rfl : b6 = true := ready_dep hr 6 (by kernel_rfl)
          refine st_slice_from rfl (by kernel_rfl) (some 22) rfl 22 (.tmp 20) (.tmp 21) rfl (.slice al n c) (.int .i64 k) (.slice (fromA al c k) (n - k) (c - k)) (by kernel_rfl) (by kernel_rfl) (e2 V) ?_
          exact ⟨b0, b1, b2, b3, b4, true, true, true, b8, b9, b10, b11, x19, x24, x25, x4, rfl, rfl, hF⟩
        · obtain rfl : b8 = false := ready_self hr
          obtain rfl : b7 = true := ready_dep hr 7 (by kernel_rfl)
          refine st_call rfl (by kernel_rfl) (some 23) rfl 10 #[.slice (fromA al c k) (n - k) (c - k)] (by kernel_rfl) ((RT V hF.base).mono ?_)
          rintro e V2 ⟨rfl, hb⟩
          exact ⟨_, rfl, b0, b1, b2, b3, b4, b5, b6, true, true, b9, b10, b11, x19, x24, x25, x4, rfl, rfl, hF.below hb⟩
        · obtain rfl : b9 = false := ready_self hr
          obtain rfl : b8 = true := ready_dep hr 8 (by kernel_rfl)
          refine st_build rfl (by kernel_rfl) (some 24) rfl 35 1 #[(0, .tmp 23)] rfl #[(0, .agg (w8s R))] (by kernel_rfl) (.slice (some ⟨V.heap.size, 0, none⟩) 1 1) _ (build_one R bR.1 V) ?_
          exact ⟨b0, b1, b2, b3, b4, b5, b6, b7, true, true, b10, b11, x19, .slice (some ⟨V.heap.size, 0, none⟩) 1 1, x25, x4, rfl, rfl, hF.made⟩
        · obtain rfl : b10 = false := ready_self hr
          obtain rfl : b4 = true := ready_dep hr 4 (by kernel_rfl)
          obtain rfl : b9 = true := ready_dep hr 9 (by kernel_rfl)
          obtain ⟨a1, c1, rfl, hO⟩ := hF.own rfl rfl
          obtain ⟨g, rfl, hA⟩ := hF.key rfl rfl
          obtain ⟨v, V2, hap, hO2, -, hb⟩ := append_key hO R bR.1 g hA hF.base.size (by omega)
          refine st_append rfl (by kernel_rfl) (some 25) rfl 35 rfl (.tmp 19) (.tmp 24) 35 rfl (.slice a1 p.length c1) (.slice (some ⟨g, 0, none⟩) 1 1) v V2 (by kernel_rfl) (by kernel_rfl) hap ?_
          exact ⟨b0, b1, b2, b3, true, b5, b6, b7, b8, true, true, b11, _, _, v, x4, rfl, rfl, hF.done hO2 hb⟩
        · obtain rfl : b11 = false := ready_self hr
          obtain rfl : b0 = true := ready_dep hr 0 (by kernel_rfl)
          obtain rfl : b1 = true := ready_dep hr 1 (by kernel_rfl)
          obtain rfl : b2 = true := ready_dep hr 2 (by kernel_rfl)
          obtain rfl : b3 = true := ready_dep hr 3 (by kernel_rfl)
          obtain rfl : b4 = true := ready_dep hr 4 (by kernel_rfl)
          obtain rfl : b5 = true := ready_dep hr 5 (by kernel_rfl)
          obtain rfl : b6 = true := ready_dep hr 6 (by kernel_rfl)
          obtain rfl : b7 = true := ready_dep hr 7 (by kernel_rfl)
          obtain rfl : b8 = true := ready_dep hr 8 (by kernel_rfl)
          obtain rfl : b9 = true := ready_dep hr 9 (by kernel_rfl)
          obtain rfl : b10 = true := ready_dep hr 10 (by kernel_rfl)
          refine st_val rfl (by kernel_rfl) (some 4) rfl x25 V (by kernel_rfl) ?_
          exact ⟨true, true, true, true, true, true, true, true, true, true, true, true, x19, x24, x25, _, rfl, rfl, hF.set⟩
      · intro a V hJ
        obtain ⟨b0, b1, b2, b3, b4, b5, b6, b7, b8, b9, b10, b11, x19, x24, x25, x4, he, rfl, hF⟩ := hJ
        have he : (#[true, true, true, true, true, true, true, true, true, true, true, true] : Array Bool) = #[b0, b1, b2, b3, b4, b5, b6, b7, b8, b9, b10, b11] := he
        simp only [Array.mk.injEq, List.cons.injEq, and_true] at he
        obtain ⟨rfl, rfl, rfl, rfl, rfl, rfl, rfl, rfl, rfl, rfl, rfl, rfl⟩ := he
        simp only [cond_true]
        obtain ⟨-, rfl⟩ := hF.asg rfl
        have HO := Lib.hid (hF.all rfl)
        have HB := Lib.hid hF.base
        clear hF IH RT CH e1 e2
        go_wp2_with fail
        go_ret
        exact ⟨_, rfl, HO.out, HB.out⟩
    · have hp := pathL_right ls i (by omega) hik
      have hpl := path_len 1000 (ls.drop (halfN ls.length)) (i - halfN ls.length) (by omega)
      have IH := fun (V : World) (h : Below w.heap.size w V) => ih (ls.drop (halfN ls.length)) (fromA al c (halfN ls.length)) (c - halfN ls.length) (i - halfN ls.length) V (by omega) (by omega) ((hR.below h).from c _ hc) (hG.below hG.size h) (by omega)
      rw [hdl] at IH
      have hd3 : decide ((i : Int) < ((halfN ls.length : Nat) : Int)) = false := decide_eq_false (by omega)
      have hsub : IntKind.i64.wrap ((i : Int) - ((halfN ls.length : Nat) : Int)) = ((i - halfN ls.length : Nat) : Int) := by rw [IntKind.wrap_i64]; omega
      rw [hp]
      generalize pathL (ls.drop (halfN ls.length)) (i - halfN ls.length) = p at *
      have bR := bL
      have RT := RL
      generalize rootL (ls.take (halfN ls.length)) = R at *
      generalize halfN ls.length = k at *
      generalize hl : ls.length = n at *
      have HSUB := Lib.hid hsub
      clear hl ih hp hR htl hdl RR bRR bL RL hsub hG
      go_enter Tryd.func26, Tryd.ntmps26
      go_upto_region 6 with (go_at_call 23; refine (CH _).mono ?_; rintro e w1 ⟨rfl, rfl⟩)
      have h0 : PF w p R false false false false undef undef undef (.slice none 0 0) { w with drawn := w.drawn + 1 } := ⟨(Below.refl _ w).drew, fun h => (by cases h), fun h => (by cases h), fun h => (by cases h), fun h => (by cases h)⟩
      refine wp_region_inv (fun listed a V => ∃ b0 b1 b2 b3 b4 b5 b6 b7 b8 b9 b10 b11 b12 b13 : Bool, ∃ x32 x37 x38 x4 : Value, listed = #[b0, b1, b2, b3, b4, b5, b6, b7, b8, b9, b10, b11, b12, b13] ∧ a = { tmps := #[.slice al n c, .int .i64 i, undef, undef, x4, .int .i64 k, .slice al n c, .int .i64 n, .bool false, .slice al n c, .int .i64 n, .int .i64 k, .int .i64 i, .int .i64 k, .bool false, undef, undef, undef, undef, undef, undef, undef, undef, undef, undef, undef, (cond b0 (.slice al n c) undef), (cond b1 (.int .i64 k) undef), (cond b2 (.slice (fromA al c k) (n - k) (c - k)) undef), (cond b3 (.int .i64 i) undef), (cond b4 (.int .i64 k) undef), (cond b5 (.int .i64 (i - k : Nat)) undef), x32, (cond b7 (.slice al n c) undef), (cond b8 (.int .i64 k) undef), (cond b9 (.slice al k c) undef), (cond b10 (.agg (w8s R)) undef), x37, x38], defers := [] } ∧ PF w p R b6 b11 b12 b13 x32 x37 x38 x4 V) (by kernel_rfl) (by kernel_rfl) ?_ ?_ ?_
      · exact ⟨false, false, false, false, false, false, false, false, false, false, false, false, false, false, undef, undef, undef, .slice none 0 0, rfl, rfl, h0⟩
      · intro i listed a V hi hr hJ
        obtain ⟨b0, b1, b2, b3, b4, b5, b6, b7, b8, b9, b10, b11, b12, b13, x32, x37, x38, x4, rfl, rfl, hF⟩ := hJ
        have hi2 : i < 14 := hi
        have hi3 : i = 0 ∨ i = 1 ∨ i = 2 ∨ i = 3 ∨ i = 4 ∨ i = 5 ∨ i = 6 ∨ i = 7 ∨ i = 8 ∨ i = 9 ∨ i = 10 ∨ i = 11 ∨ i = 12 ∨ i = 13 := by omega
        rcases hi3 with rfl | rfl | rfl | rfl | rfl | rfl | rfl | rfl | rfl | rfl | rfl | rfl | rfl | rfl
        · obtain rfl : b0 = false := ready_self hr
          refine st_val rfl (by kernel_rfl) (some 26) rfl (.slice al n c) V (by kernel_rfl) ?_
          exact ⟨true, b1, b2, b3, b4, b5, b6, b7, b8, b9, b10, b11, b12, b13, x32, x37, x38, x4, rfl, rfl, hF⟩
        · obtain rfl : b1 = false := ready_self hr
          refine st_val rfl (by kernel_rfl) (some 27) rfl (.int .i64 k) V (by kernel_rfl) ?_
          exact ⟨b0, true, b2, b3, b4, b5, b6, b7, b8, b9, b10, b11, b12, b13, x32, x37, x38, x4, rfl, rfl, hF⟩
        · obtain rfl : b2 = false := ready_self hr
          obtain rfl : b0 = true := ready_dep hr 0 (by kernel_rfl)
          obtain rfl : b1 = true := ready_dep hr 1 (by kernel_rfl)
          refine st_slice_from rfl (by kernel_rfl) (some 28) rfl 22 (.tmp 26) (.tmp 27) rfl (.slice al n c) (.int .i64 k) (.slice (fromA al c k) (n - k) (c - k)) (by kernel_rfl) (by kernel_rfl) (e2 V) ?_
          exact ⟨true, true, true, b3, b4, b5, b6, b7, b8, b9, b10, b11, b12, b13, x32, x37, x38, x4, rfl, rfl, hF⟩
        · obtain rfl : b3 = false := ready_self hr
          refine st_val rfl (by kernel_rfl) (some 29) rfl (.int .i64 i) V (by kernel_rfl) ?_
          exact ⟨b0, b1, b2, true, b4, b5, b6, b7, b8, b9, b10, b11, b12, b13, x32, x37, x38, x4, rfl, rfl, hF⟩
        · obtain rfl : b4 = false := ready_self hr
          refine st_val rfl (by kernel_rfl) (some 30) rfl (.int .i64 k) V (by kernel_rfl) ?_
          exact ⟨b0, b1, b2, b3, true, b5, b6, b7, b8, b9, b10, b11, b12, b13, x32, x37, x38, x4, rfl, rfl, hF⟩
        · obtain rfl : b5 = false := ready_self hr
          obtain rfl : b3 = true := ready_dep hr 3 (by kernel_rfl)
          obtain rfl : b4 = true := ready_dep hr 4 (by kernel_rfl)
          refine st_val rfl (by kernel_rfl) (some 31) rfl (.int .i64 (IntKind.i64.wrap ((i : Int) - (k : Int)))) V (by kernel_rfl) ?_
          rw [HSUB.out]
          exact ⟨b0, b1, b2, true, true, true, b6, b7, b8, b9, b10, b11, b12, b13, x32, x37, x38, x4, rfl, rfl, hF⟩
        · obtain rfl : b6 = false := ready_self hr
          obtain rfl : b2 = true := ready_dep hr 2 (by kernel_rfl)
          obtain rfl : b5 = true := ready_dep hr 5 (by kernel_rfl)
          refine st_call rfl (by kernel_rfl) (some 32) rfl 26 #[.slice (fromA al c k) (n - k) (c - k), .int .i64 (i - k : Nat)] (by kernel_rfl) ((IH V hF.base).mono ?_)
          rintro e V2 ⟨v, rfl, hO, hb⟩
          exact ⟨v, rfl, b0, b1, true, b3, b4, true, true, b7, b8, b9, b10, b11, b12, b13, v, x37, x38, x4, rfl, rfl, hF.path hO hb⟩
        · obtain rfl : b7 = false := ready_self hr
          refine st_val rfl (by kernel_rfl) (some 33) rfl (.slice al n c) V (by kernel_rfl) ?_
          exact ⟨b0, b1, b2, b3, b4, b5, b6, true, b8, b9, b10, b11, b12, b13, x32, x37, x38, x4, rfl, rfl, hF⟩
        · obtain rfl : b8 = false := ready_self hr
          refine st_val rfl (by kernel_rfl) (some 34) rfl (.int .i64 k) V (by kernel_rfl) ?_
          exact ⟨b0, b1, b2, b3, b4, b5, b6, b7, true, b9, b10, b11, b12, b13, x32, x37, x38, x4, rfl, rfl, hF⟩
        · obtain rfl : b9 = false := ready_self hr
          obtain rfl : b7 = true := ready_dep hr 7 (by kernel_rfl)
          obtain rfl : b8 = true := ready_dep hr 8 (by kernel_rfl)
          refine st_slice_to rfl (by kernel_rfl) (some 35) rfl 22 (.tmp 33) (.tmp 34) rfl (.slice al n c) (.int .i64 k) (.slice al k c) (by kernel_rfl) (by kernel_rfl) (e1 V) ?_
          exact ⟨b0, b1, b2, b3, b4, b5, b6, true, true, true, b10, b11, b12, b13, x32, x37, x38, x4, rfl, rfl, hF⟩
        · obtain rfl : b10 = false := ready_self hr
          obtain rfl : b9 = true := ready_dep hr 9 (by kernel_rfl)
          refine st_call rfl (by kernel_rfl) (some 36) rfl 10 #[.slice al k c] (by kernel_rfl) ((RT V hF.base).mono ?_)
          rintro e V2 ⟨rfl, hb⟩
          exact ⟨_, rfl, b0, b1, b2, b3, b4, b5, b6, b7, b8, true, true, b11, b12, b13, x32, x37, x38, x4, rfl, rfl, hF.below hb⟩
        · obtain rfl : b11 = false := ready_self hr
          obtain rfl : b10 = true := ready_dep hr 10 (by kernel_rfl)
          refine st_build rfl (by kernel_rfl) (some 37) rfl 35 1 #[(0, .tmp 36)] rfl #[(0, .agg (w8s R))] (by kernel_rfl) (.slice (some ⟨V.heap.size, 0, none⟩) 1 1) _ (build_one R bR.1 V) ?_
          exact ⟨b0, b1, b2, b3, b4, b5, b6, b7, b8, b9, true, true, b12, b13, x32, .slice (some ⟨V.heap.size, 0, none⟩) 1 1, x38, x4, rfl, rfl, hF.made⟩
        · obtain rfl : b12 = false := ready_self hr
          obtain rfl : b6 = true := ready_dep hr 6 (by kernel_rfl)
          obtain rfl : b11 = true := ready_dep hr 11 (by kernel_rfl)
          obtain ⟨a1, c1, rfl, hO⟩ := hF.own rfl rfl
          obtain ⟨g, rfl, hA⟩ := hF.key rfl rfl
          obtain ⟨v, V2, hap, hO2, -, hb⟩ := append_key hO R bR.1 g hA hF.base.size (by omega)
          refine st_append rfl (by kernel_rfl) (some 38) rfl 35 rfl (.tmp 32) (.tmp 37) 35 rfl (.slice a1 p.length c1) (.slice (some ⟨g, 0, none⟩) 1 1) v V2 (by kernel_rfl) (by kernel_rfl) hap ?_
          exact ⟨b0, b1, b2, b3, b4, b5, true, b7, b8, b9, b10, true, true, b13, _, _, v, x4, rfl, rfl, hF.done hO2 hb⟩
        · obtain rfl : b13 = false := ready_self hr
          obtain rfl : b0 = true := ready_dep hr 0 (by kernel_rfl)
          obtain rfl : b1 = true := ready_dep hr 1 (by kernel_rfl)
          obtain rfl : b2 = true := ready_dep hr 2 (by kernel_rfl)
          obtain rfl : b3 = true := ready_dep hr 3 (by kernel_rfl)
          obtain rfl : b4 = true := ready_dep hr 4 (by kernel_rfl)
          obtain rfl : b5 = true := ready_dep hr 5 (by kernel_rfl)
          obtain rfl : b6 = true := ready_dep hr 6 (by kernel_rfl)
          obtain rfl : b7 = true := ready_dep hr 7 (by kernel_rfl)
          obtain rfl : b8 = true := ready_dep hr 8 (by kernel_rfl)
          obtain rfl : b9 = true := ready_dep hr 9 (by kernel_rfl)
          obtain rfl : b10 = true := ready_dep hr 10 (by kernel_rfl)
          obtain rfl : b11 = true := ready_dep hr 11 (by kernel_rfl)
          obtain rfl : b12 = true := ready_dep hr 12 (by kernel_rfl)
          refine st_val rfl (by kernel_rfl) (some 4) rfl x38 V (by kernel_rfl) ?_
          exact ⟨true, true, true, true, true, true, true, true, true, true, true, true, true, true, x32, x37, x38, _, rfl, rfl, hF.set⟩
      · intro a V hJ
        obtain ⟨b0, b1, b2, b3, b4, b5, b6, b7, b8, b9, b10, b11, b12, b13, x32, x37, x38, x4, he, rfl, hF⟩ := hJ
        have he : (#[true, true, true, true, true, true, true, true, true, true, true, true, true, true] : Array Bool) = #[b0, b1, b2, b3, b4, b5, b6, b7, b8, b9, b10, b11, b12, b13] := he
        simp only [Array.mk.injEq, List.cons.injEq, and_true] at he
        obtain ⟨rfl, rfl, rfl, rfl, rfl, rfl, rfl, rfl, rfl, rfl, rfl, rfl, rfl, rfl⟩ := he
        simp only [cond_true]
        obtain ⟨-, rfl⟩ := hF.asg rfl
        have HO := Lib.hid (hF.all rfl)
        have HB := Lib.hid hF.base
        clear hF IH RT CH e1 e2
        go_wp2_with fail
        go_ret
        exact ⟨_, rfl, HO.out, HB.out⟩

theorem pathof_any (ls : List (List Int)) (al : Option Addr) (c i : Nat) (w : World) (hG : Glob w) (hn : ls.length ≤ 1000) (hc : ls.length ≤ c) (hR : RB w al ls) (hi : i < ls.length) :
    Calls Tryd.prog 26 #[.slice al ls.length c, .int .i64 i] w fun e w' => ∃ v, e = .returned v ∧ OwnK w' w.heap.size v (pathL ls i) ∧ Below w.heap.size w w' := by
  have h : ∀ m, ∀ (ls : List (List Int)) (al : Option Addr) (c i : Nat) (w : World), ls.length ≤ m → ls.length ≤ 1000 → ls.length ≤ c → RB w al ls → Glob w → i < ls.length →
      Calls Tryd.prog 26 #[.slice al ls.length c, .int .i64 i] w fun e w' => ∃ v, e = .returned v ∧ OwnK w' w.heap.size v (pathL ls i) ∧ Below w.heap.size w w' := by
    intro m
    induction m with
    | zero => exact fun ls al c i w hm hn hc hR hG hi => by omega
    | succ m ih => exact fun ls al c i w hm hn hc hR hG hi => pathof_step ls al c i w hG hn hc hR hi (fun ls2 al2 c2 i2 w2 hl hc2 hR2 hG2 hi2 => ih ls2 al2 c2 i2 w2 (by omega) (by omega) hc2 hR2 hG2 hi2)
  exact h ls.length ls al c i w (Nat.le_refl _) hn hc hR hG hi
set_option maxRecDepth 100000 in
set_option maxHeartbeats 4000000 in
theorem pproof_none (n c : Nat) (al : Option Addr) (i : Int) (w : World) (hi : i < 0 ∨ (n : Int) ≤ i) :
    Calls Tryd.prog 16 #[.slice al n c, .int .i64 i] w fun e w' => e = .returned (.tuple #[.slice none 0 0, .bool false]) ∧ w = w' := by
  by_cases h0 : i < 0
  · have hd : decide (i < 0) = true := decide_eq_true h0
    go_enter Tryd.func16, Tryd.ntmps16
    go_wp2_with fail
    go_ret2
    exact ⟨rfl, rfl⟩
  · have hd : decide (i < 0) = false := decide_eq_false h0
    have hd2 : decide ((n : Int) ≤ i) = true := decide_eq_true (by omega)
    go_enter Tryd.func16, Tryd.ntmps16
    go_wp2_with fail
    go_ret2
    exact ⟨rfl, rfl⟩
set_option maxRecDepth 100000 in
set_option maxHeartbeats 4000000 in
theorem pproof_any : ProofC 16 := by
  intro ls al c i w hG hn hc hR hi0 hi1
  by_cases hin : 0 ≤ i ∧ i < (ls.length : Int)
  · obtain ⟨j, rfl⟩ := Int.eq_ofNat_of_zero_le hin.1
    have hj : j < ls.length := by omega
    rw [prL_in ls j hj]
    have C := pathof_any ls al c j w hG hn hc hR hj
    have hd : decide ((j : Int) < 0) = false := decide_eq_false (by omega)
    have hd2 : decide (ls.length ≤ j) = false := decide_eq_false (by omega)
    generalize pathL ls j = p at *
    generalize ls.length = n at *
    clear hR hin hi0 hi1 hj hc hn hG
    go_enter Tryd.func16, Tryd.ntmps16
    go_wp2_with (go_at_call 26; refine C.mono ?_; rintro e w2 ⟨v, rfl, hO, hb⟩; obtain ⟨a1, c1, rfl, hK, hc1⟩ := hO.rk; clear C)
    go_ret2
    exact ⟨a1, c1, rfl, hK, hc1, hb⟩
  · have hlt : i < 0 ∨ (ls.length : Int) ≤ i := by omega
    rw [prL_out ls i hlt]
    refine (pproof_none ls.length c al i w hlt).mono ?_
    rintro e w' ⟨rfl, rfl⟩
    exact ⟨none, 0, rfl, fun i hi => (by cases hi), Nat.le_refl _, Below.refl _ _⟩
theorem proot_C : RootC 10 := fun ls al c w hG hn hc hR => proot_any ls al c w hG hn hc hR
theorem pleaf_C : LeafC 14 := fun B a c w hG hS hc h8 hn => pleaf_any B a c w hG hS hc h8 hn
theorem pinner_C : InnerC 12 := fun A B w hG hA hB hA8 hB8 => pinner_any A B w hG hA hB hA8 hB8
end Go.Proofs.YtbhnbcpllhefgaaDoor
