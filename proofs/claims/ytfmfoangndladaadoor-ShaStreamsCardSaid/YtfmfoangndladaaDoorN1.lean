/-
  Two equal keys; the fixed example returns true.
-/
import Derived.Test.YtfmfoangndladaaDoorK8
import Derived.Test.YtfmfoangndladaaDoorR1
import Derived.Stop.BytesEq
import Derived.Lib.SlBytesConst
import Derived.Lib.SmallJoins
namespace Go.Proofs.YtfmfoangndladaaDoor
open Go.RowKit

theorem keys_in {P : Program} (w : World) (d t e n : Nat) (ht : P.underlying t = some (.array n e)) (he : P.underlying e = some (.int .u8)) (hsz : ∀ w, (sizeOf e).run P w = .ok 1 w) (S : List Int) (hx : S.length = n) :
    (Op.equalIn (d + 2) t (.agg (w8s S)) (.agg (w8s S))).run P w = .ok true w := by
  rw [Op.equalIn]
  simp only [Sem.run_bind, run_underlying ht, Result.andThen_ok, hsz, Std.Legacy.Range.forIn_eq_forIn_range', Std.Legacy.Range.size, Nat.sub_zero, Nat.add_sub_cancel, Nat.div_one]
  have hl : ∀ i ∈ List.range' 0 n 1, i < n := fun i hi => by simpa using (List.mem_range'_1.1 hi).2
  generalize List.range' 0 n 1 = l at hl ⊢
  induction l with
  | nil => simp
  | cons i l ih =>
    have hi : i < n := hl i (by simp)
    have px : (part e (w8s S) (i * 1)).run P w = .ok (.int .u8 (S.getD i 0)) w := by
      simp [part, isAgg, run_underlying he, List.getD, List.getElem?_eq_getElem (show i < S.length by omega)]
    have pe : (Op.equalIn (d + 1) e (.int .u8 (S.getD i 0)) (.int .u8 (S.getD i 0))).run P w = .ok true w := by
      rw [run_equalIn_int w d e .u8 .u8 _ _ he]
      simp
    simp only [List.forIn_cons, Sem.run_bind, px, pe, Result.andThen_ok]
    simp only [Bool.not_true, Bool.false_eq_true, if_false, Sem.run_pure, Result.andThen_ok]
    exact ih fun j hj => hl j (by simp [hj])

theorem key_in (S : List Int) (hS : S.length = 32) (w : World) : (Op.equalIn 10000 26 (.agg (w8s S)) (.agg (w8s S))).run Tryd.prog w = .ok true w :=
  keys_in w 9998 26 5 32 (by kernel_rfl) Tryd.underlying5 (fun w => by kernel_rfl) S hS
theorem key_guard : Tryd.prog.eqGuardType Tryd.prog.depth 26 = false := by kernel_rfl

/-- What a step of the example needs of a world. -/
def KS (w : World) (k1 k2 gd : Nat) (A B M : List Int) (wx : World) : Prop := Ab wx k1 26 A ∧ Ab wx k2 26 B ∧ DM wx gd M ∧ Glob wx ∧ Below w.heap.size w wx
theorem KS.below {w wx w' : World} {k1 k2 gd : Nat} {A B M : List Int} (h : KS w k1 k2 gd A B M wx) (hb : Below wx.heap.size wx w') : KS w k1 k2 gd A B M w' :=
  ⟨h.1.below h.1.lt hb, h.2.1.below h.2.1.lt hb, h.2.2.1.below h.2.2.1.lt hb, h.2.2.2.1.below h.2.2.2.1.size hb, h.2.2.2.2.trans (hb.mono h.2.2.2.2.size)⟩
theorem KS.alloc {w wx : World} {k1 k2 gd : Nat} {A B M : List Int} (h : KS w k1 k2 gd A B M wx) (o : Obj) : KS w k1 k2 gd A B M (wx.alloc o) := h.below ((Below.refl _ _).alloc (Nat.le_refl _) _)

theorem KS.drew {w wx : World} {k1 k2 gd : Nat} {A B M : List Int} (h : KS w k1 k2 gd A B M wx) : KS w k1 k2 gd A B M wx.drew := by
  obtain ⟨a, b, ⟨H, Bl, c, r⟩, ⟨⟨t, fr, d⟩, t2, fr2, d2⟩, e⟩ := h
  exact ⟨a, b, ⟨H, Bl, c, r⟩, ⟨⟨t, fr, d⟩, t2, fr2, d2⟩, e.drew⟩
theorem KS.write {w wx w' : World} {k1 k2 gd : Nat} {A B M M' : List Int} (h : KS w k1 k2 gd A B M wx) (hM : DM w' gd M') (hb : But gd wx w') (h1 : k1 ≠ gd) (h2 : k2 ≠ gd) (h3 : 2 ≤ gd) (h4 : w.heap.size ≤ gd) : KS w k1 k2 gd A B M' w' := by
  obtain ⟨a, b, c, d, e⟩ := h
  refine ⟨?_, ?_, hM, hb.glob h3 d, e.trans (hb.below h4)⟩
  · unfold Ab
    rw [hb.2 k1 a.lt h1]
    exact a
  · unfold Ab
    rw [hb.2 k2 b.lt h2]
    exact b
theorem sl_fr (w : World) (L : List Int) (c : Nat) (fr : Nat × Nat) : Sl (w.alloc (.cells (L.map (Value.int .u8)).toArray 5 fr)) (some ⟨w.heap.size, 0, none⟩) c L := by
  refine .inr ⟨_, rfl, fun k hk => ⟨_, _, rfl, ?_⟩⟩
  rw [Nat.zero_add, cell_of_row _ w.heap.size k _ 5 fr (heap_alloc_new w _)]
  simp [List.getD, List.getElem?_eq_getElem hk]
theorem bytes3 : ∀ x, x ∈ [(97 : Int), 98, 99] → W8 x := by
  intro x hx
  simp at hx
  unfold W8
  omega

theorem Ab.range {w : World} {g t : Nat} {L : List Int} (h : Ab w g t L) : w.rangeAt g 0 (L.map (Value.int .u8)) := fun j v hv => by
  rw [cell_of_row w g _ _ t (0, 0) h]
  simpa using hv
theorem same4 (w : World) (k : Nat) (A L : List Int) (C : Array Value) (hC : C = (L.map (Value.int .u8)).toArray) (hL : L.length = 4) (h4 : A.take 4 = L) (h : Ab (w.alloc (.cells C 5)) k 26 A) :
    Calls Tryd.prog 14 #[.slice (some ⟨k, 0, none⟩) 4 32, .slice (some ⟨w.heap.size, 0, none⟩) 4 4] (w.alloc (.cells C 5)) fun e w' => e = .returned (.bool true) ∧ w.alloc (.cells C 5) = w' := by
  subst hC
  have h1 : Sl (w.alloc (.cells (L.map (Value.int .u8)).toArray 5)) (some ⟨k, 0, none⟩) 32 L := by
    have h2 := sl_take (h.sl (m := 32)) 4
    rw [h4] at h2
    exact h2
  have := same_true (some ⟨k, 0, none⟩) 32 (some ⟨w.heap.size, 0, none⟩) 4 L _ h1 (sl_new w L 4)
  rw [hL] at this
  exact this

theorem ca1 (w wx : World) (k1 k2 gd : Nat) (A B M : List Int) (g : Nat) (hg : g = wx.heap.size) (HA4 : A.take 4 = [227, 176, 196, 66]) (h : KS w k1 k2 gd A B M (wx.alloc (.cells #[.int .u8 227, .int .u8 176, .int .u8 196, .int .u8 66] 5))) :
    Calls Tryd.prog 14 #[.slice (some ⟨k1, 0, none⟩) 4 32, .slice (some ⟨g, 0, none⟩) 4 4] (wx.alloc (.cells #[.int .u8 227, .int .u8 176, .int .u8 196, .int .u8 66] 5)) fun e w' => e = .returned (.bool true) ∧ wx.alloc (.cells #[.int .u8 227, .int .u8 176, .int .u8 196, .int .u8 66] 5) = w' := by
  subst hg
  exact same4 wx k1 A [227, 176, 196, 66] #[.int .u8 227, .int .u8 176, .int .u8 196, .int .u8 66] rfl rfl HA4 h.1
theorem cb1 (w wx : World) (k1 k2 gd : Nat) (A B M : List Int) (g : Nat) (hg : g = wx.heap.size) (HB4 : B.take 4 = [186, 120, 22, 191]) (h : KS w k1 k2 gd A B M (wx.alloc (.cells #[.int .u8 186, .int .u8 120, .int .u8 22, .int .u8 191] 5))) :
    Calls Tryd.prog 14 #[.slice (some ⟨k2, 0, none⟩) 4 32, .slice (some ⟨g, 0, none⟩) 4 4] (wx.alloc (.cells #[.int .u8 186, .int .u8 120, .int .u8 22, .int .u8 191] 5)) fun e w' => e = .returned (.bool true) ∧ wx.alloc (.cells #[.int .u8 186, .int .u8 120, .int .u8 22, .int .u8 191] 5) = w' := by
  subst hg
  exact same4 wx k2 B [186, 120, 22, 191] #[.int .u8 186, .int .u8 120, .int .u8 22, .int .u8 191] rfl rfl HB4 h.2.1
theorem cs1 (w wx : World) (k1 k2 gd : Nat) (A B M S : List Int) (hS : S = shaL M) (h2 : 2 ≤ gd) (hM : M.length ≤ 500000) (h : KS w k1 k2 gd A B M wx) :
    Calls Tryd.prog 12 #[.pointer (some ⟨gd, 0, none⟩)] wx fun e w' => e = .returned (.agg (w8s S)) ∧ KS w k1 k2 gd A B M w' := by
  have hD : DM wx gd M := h.2.2.1
  have hGl : Glob wx := h.2.2.2.1
  have C := sum_any gd M wx hGl h2 hD hM
  rw [← hS] at C
  refine C.mono ?_
  rintro e w' ⟨he, hb⟩
  exact ⟨he, h.below hb⟩
theorem cl1 (w wx : World) (k1 k2 gd : Nat) (A B M : List Int) (m : Int) (hm : m = (M.length : Int)) (h : KS w k1 k2 gd A B M wx) : Calls Tryd.prog 13 #[.pointer (some ⟨gd, 0, none⟩)] wx fun e w' => e = .returned (.int .i64 m) ∧ wx = w' := by
  subst hm
  obtain ⟨H, Bl, hd, hH, hB, -⟩ := h.2.2.1
  exact len_any wx gd H Bl M.length hd hH hB

set_option maxRecDepth 100000 in
set_option maxHeartbeats 4000000 in
theorem known_true (w : World) (hG : Glob w) : Calls Tryd.prog 7 #[] w fun e w' => e = .returned (.bool true) ∧ Below w.heap.size w w' := by
  have kc := fun (w : World) (C : Array Value) (n c : Nat) => Lib.run_convert_bytes_const (P := Tryd.prog) w 22 5 C n c Tryd.underlying22 Tryd.underlying5
  have C1 := fsum_any [] none 0 w hG (.inl ⟨rfl, rfl, rfl⟩) (fun h => absurd rfl h) (by simp) (by simp) (by simp)
  have C2 := fun (w : World) (a : Option Addr) (hG : Glob w) (hS : Sl w a 3 [97, 98, 99]) (ho : Off a (w.heap.size + 1)) => fsum_any [97, 98, 99] a 3 w hG hS (fun _ => ho) (by simp) bytes3 (by simp)
  obtain ⟨A, hA⟩ : ∃ A, A = shaL [] := ⟨_, rfl⟩
  obtain ⟨B, hB⟩ : ∃ B, B = shaL [97, 98, 99] := ⟨_, rfl⟩
  rw [← hA] at C1
  rw [← hB] at C2
  have hAl : A.length = 32 := by rw [hA]; exact shaL_len _
  have hBl : B.length = 32 := by rw [hB]; exact shaL_len _
  have hA4 : A.take 4 = [227, 176, 196, 66] := by rw [hA]; exact sha_empty
  have hB4 : B.take 4 = [186, 120, 22, 191] := by rw [hB]; exact sha_abc
  have HAl := Lib.hid hAl
  have HBl := Lib.hid hBl
  have HA4 := Lib.hid hA4
  have HB4 := Lib.hid hB4
  have HB := Lib.hid hB
  clear hA hB hAl hBl hA4 hB4
  have hg2 := hG.size
  have HG := Lib.hid hG
  clear hG
  go_enter Tryd.func7, Tryd.ntmps7
  go_upto_region 1 with fail
  apply wp_region_lit
  refine wpList_plain rfl (fun K hK => ?_)
  go_simp
  refine C1.mono ?_
  rintro e w1 ⟨rfl, hb1⟩
  apply hK
  clear hK K
  refine wpList_plain rfl (fun K hK => ?_)
  go_simp
  apply hK
  clear hK K
  refine wpList_plain rfl (fun K hK => ?_)
  go_simp
  apply hK
  clear hK K
  have hbm := (Below.refl w1.heap.size w1).alloc (Nat.le_refl _) (.cells #[.int .u8 97, .int .u8 98, .int .u8 99] 5 (3, 4))
  have hsm : (w1.alloc (.cells #[.int .u8 97, .int .u8 98, .int .u8 99] 5 (3, 4))).heap.size = w1.heap.size + 1 := by simp
  have hbw := hb1.trans (hbm.mono hb1.size)
  have C3 := C2 _ (some ⟨w1.heap.size, 0, none⟩) (HG.out.below hg2 hbw) (sl_fr w1 [97, 98, 99] 3 (3, 4)) (by intro x hx; cases hx; simp; omega)
  have hsz1 := hb1.size
  generalize w1.alloc (.cells #[.int .u8 97, .int .u8 98, .int .u8 99] 5 (3, 4)) = W1 at *
  clear hbm hb1 C1 C2
  refine wpList_plain rfl (fun K hK => ?_)
  go_simp
  refine C3.mono ?_
  rintro e w2 ⟨rfl, hb2⟩
  apply hK
  clear hK K C3
  have hbw2 := hbw.trans (hb2.mono (by omega))
  have hsz2 := hb2.size
  refine Great.wpList_runTo rfl (some 1) rfl (.pointer (some ⟨w2.heap.size, 0, none⟩)) (w2.alloc (.cells (w8s (List.replicate 32 0)) 26)) (by kernel_rfl) ?_
  have hA2 : Ab (w2.alloc (.cells (w8s (List.replicate 32 0)) 26)) w2.heap.size 26 (List.replicate 32 0) := heap_alloc_last _ _
  have hb3 : Below w.heap.size w (w2.alloc (.cells (w8s (List.replicate 32 0)) 26)) := hbw2.alloc hbw2.size _
  have hs3 : (w2.alloc (.cells (w8s (List.replicate 32 0)) 26)).heap.size = w2.heap.size + 1 := by simp
  generalize w2.alloc (.cells (w8s (List.replicate 32 0)) 26) = W2 at *
  refine Great.wpList_runTo rfl (some 2) rfl (.pointer (some ⟨W2.heap.size, 0, none⟩)) (W2.alloc (.cells (w8s (List.replicate 32 0)) 26)) (by kernel_rfl) ?_
  have hA3 := hA2.alloc (.cells (w8s (List.replicate 32 0)) 26)
  have hB3 : Ab (W2.alloc (.cells (w8s (List.replicate 32 0)) 26)) W2.heap.size 26 (List.replicate 32 0) := heap_alloc_last _ _
  have hb4 := hb3.alloc hb3.size (.cells (w8s (List.replicate 32 0)) 26)
  have hs4 : (W2.alloc (.cells (w8s (List.replicate 32 0)) 26)).heap.size = w2.heap.size + 2 := by simp [hs3]
  rw [hs3] at hB3 ⊢
  generalize W2.alloc (.cells (w8s (List.replicate 32 0)) 26) = W3 at *
  clear hA2 hb3 hs3 W2
  have hk : w.heap.size ≤ w2.heap.size := hbw2.size
  generalize w2.heap.size = k1 at *
  have hqA : (w8s A).size = 32 := by simp [HAl.out]
  have hqB : (w8s B).size = 32 := by simp [HBl.out]
  apply wpList_store_at (ty := 26) (x := .tmp 1) (y := .tmp 4) (g := k1) (c := w8s (List.replicate 32 0)) (c' := w8s A)
  case hgd => rfl
  case ho => rfl
  case hx => kernel_rfl
  case hy => kernel_rfl
  case hg => exact hA3
  case hi => rw [hqA]; kernel_rfl
  case hz => rw [hqA]; rfl
  case h1 => exact one_w8s _
  have hA4 : Ab (W3.setRow k1 (w8s A)) k1 26 A := setRow_heap _ _ _ _ _ _ hA3
  have hB4 : Ab (W3.setRow k1 (w8s A)) (k1 + 1) 26 (List.replicate 32 0) := by
    unfold Ab
    rw [setRow_other W3 k1 (k1 + 1) _ (by omega)]
    exact hB3
  have hb5 := belowRow hb4 (by omega : w.heap.size ≤ k1) (w8s A)
  have hs5 : (W3.setRow k1 (w8s A)).heap.size = k1 + 2 := by rw [size_setRow]; exact hs4
  generalize W3.setRow k1 (w8s A) = W4 at *
  clear hA3 hB3 hb4 hs4 W3
  apply wpList_store_at (ty := 26) (x := .tmp 2) (y := .tmp 7) (g := k1 + 1) (c := w8s (List.replicate 32 0)) (c' := w8s B)
  case hgd => rfl
  case ho => rfl
  case hx => kernel_rfl
  case hy => kernel_rfl
  case hg => exact hB4
  case hi => rw [hqB]; kernel_rfl
  case hz => rw [hqB]; rfl
  case h1 => exact one_w8s _
  apply wpList_nil
  have hB5 : Ab (W4.setRow (k1 + 1) (w8s B)) (k1 + 1) 26 B := setRow_heap _ _ _ _ _ _ hB4
  have hA5 : Ab (W4.setRow (k1 + 1) (w8s B)) k1 26 A := by
    unfold Ab
    rw [setRow_other W4 (k1 + 1) k1 _ (by omega)]
    exact hA4
  have hb6 := belowRow hb5 (by omega : w.heap.size ≤ k1 + 1) (w8s B)
  have hs6 : (W4.setRow (k1 + 1) (w8s B)).heap.size = k1 + 2 := by rw [size_setRow]; exact hs5
  generalize W4.setRow (k1 + 1) (w8s B) = W5 at *
  clear hA4 hB4 hb5 hs5 W4 hqA hqB hbw2 hsz2 hsm hbw hb2 hsz1
  have hG5 := HG.out.below hg2 hb6
  have hKS : KS w k1 (k1 + 1) (k1 + 2) A B [] (W5.alloc (.cells (digs h0s z64 0).toArray 43)) := by
    have hbn := (Below.refl W5.heap.size W5).alloc (Nat.le_refl _) (.cells (digs h0s z64 0).toArray 43)
    refine ⟨hA5.alloc _, hB5.alloc _, by have := DM.new W5; rwa [hs6] at this, hG5.below (by omega) hbn, hb6.trans (hbn.mono (by omega))⟩
  have hs7 : (W5.alloc (.cells (digs h0s z64 0).toArray 43)).heap.size = k1 + 3 := by simp [hs6]
  have CN := new_any W5 hG5
  rw [hs6] at CN
  clear hA5 hB5 hG5 hb6
  generalize W5.alloc (.cells (digs h0s z64 0).toArray 43) = W6 at *
  have HKS := Lib.hid hKS
  clear hKS
  go_upto_region 5 with (go_at_call 10; refine CN.mono ?_; rintro e w3 ⟨rfl, rfl⟩)
  have hW3 := (HKS.out).alloc (.cells #[.int .u8 97] 5 (1, 2))
  have CW1 := write_any (k1 + 2) [] [97] (some ⟨w3.heap.size, 0, none⟩) 1 (w3.alloc (.cells #[.int .u8 97] 5 (1, 2))) hW3.2.2.2.1 (by omega) hW3.2.2.1 (sl_fr w3 [97] 1 (1, 2)) (fun _ => by intro x hx; cases hx; simp; omega) (by simp) (by intro x hx; simp at hx; unfold W8; omega) (by simp)
  have HW3 := Lib.hid hW3
  have HS7 := Lib.hid hs7
  clear hW3 CN hs7 hs6
  go_upto_region 6 with (go_at_call 11; refine CW1.mono ?_; rintro e w4 ⟨rfl, hM4, hb4⟩)
  have hKS4 := HW3.out.write hM4 hb4 (by omega) (by omega) (by omega) (by omega)
  have hs4 : k1 + 3 ≤ w4.heap.size := by have := hb4.1.size; have := HS7.out; simp at *; omega
  clear HKS HW3 hM4 hb4 CW1
  have hW4 := hKS4.alloc (.cells #[.int .u8 98, .int .u8 99] 5 (2, 3))
  have CW2 := write_any (k1 + 2) ([] ++ [97]) [98, 99] (some ⟨w4.heap.size, 0, none⟩) 2 (w4.alloc (.cells #[.int .u8 98, .int .u8 99] 5 (2, 3))) hW4.2.2.2.1 (by omega) hW4.2.2.1 (sl_fr w4 [98, 99] 2 (2, 3)) (fun _ => by intro x hx; cases hx; simp; omega) (by simp) (by intro x hx; simp at hx; unfold W8; omega) (by simp)
  have HW4 := Lib.hid hW4
  clear hW4 hKS4
  go_upto_region 7 with (go_at_call 11; refine CW2.mono ?_; rintro e w5 ⟨rfl, hM5, hb5⟩)
  have hKS5 : KS w k1 (k1 + 1) (k1 + 2) A B [97, 98, 99] w5 := HW4.out.write hM5 hb5 (by omega) (by omega) (by omega) (by omega)
  clear HW4 hM5 hb5 CW2 kc
  obtain ⟨M, hM⟩ : ∃ M, M = [(97 : Int), 98, 99] := ⟨_, rfl⟩
  rw [← hM] at hKS5
  have HM : Hid (M = [(97 : Int), 98, 99]) := Lib.hid hM
  have hBM : B = shaL M := by rw [hM]; exact HB.out
  have HBM := Lib.hid hBM
  clear hM hBM HB
  have hMl : M.length = 3 := by rw [HM.out]; rfl
  have CA := fun wx g (hg : g = wx.heap.size) (h : KS w k1 (k1 + 1) (k1 + 2) A B M (wx.alloc (.cells #[.int .u8 227, .int .u8 176, .int .u8 196, .int .u8 66] 5)) ∧ (wx.alloc (.cells #[.int .u8 227, .int .u8 176, .int .u8 196, .int .u8 66] 5)).rangeAt (k1 + 1) 0 (B.map (Value.int .u8))) => ca1 w wx k1 (k1 + 1) (k1 + 2) A B M g hg HA4.out h.1
  have CB := fun wx g (hg : g = wx.heap.size) (h : KS w k1 (k1 + 1) (k1 + 2) A B M (wx.alloc (.cells #[.int .u8 186, .int .u8 120, .int .u8 22, .int .u8 191] 5)) ∧ (wx.alloc (.cells #[.int .u8 186, .int .u8 120, .int .u8 22, .int .u8 191] 5)).rangeAt (k1 + 1) 0 (B.map (Value.int .u8))) => cb1 w wx k1 (k1 + 1) (k1 + 2) A B M g hg HB4.out h.1
  have CS := fun wx (h : KS w k1 (k1 + 1) (k1 + 2) A B M wx ∧ wx.rangeAt (k1 + 1) 0 (B.map (Value.int .u8))) => (cs1 w wx k1 (k1 + 1) (k1 + 2) A B M B HBM.out (by omega) (by omega) h.1).mono (R' := fun e w' => e = .returned (.agg (w8s B)) ∧ KS w k1 (k1 + 1) (k1 + 2) A B M w' ∧ w'.rangeAt (k1 + 1) 0 (B.map (Value.int .u8))) (fun e w' hx => ⟨hx.1, hx.2, hx.2.2.1.range⟩)
  have CL := fun wx (h : KS w k1 (k1 + 1) (k1 + 2) A B M wx ∧ wx.rangeAt (k1 + 1) 0 (B.map (Value.int .u8))) => cl1 w wx k1 (k1 + 1) (k1 + 2) A B M 3 (by rw [hMl]; rfl) h.1
  have KA := fun (wx : World) (o : Obj) (h : KS w k1 (k1 + 1) (k1 + 2) A B M wx ∧ wx.rangeAt (k1 + 1) 0 (B.map (Value.int .u8))) => (⟨h.1.alloc o, (h.1.alloc o).2.1.range⟩ : KS w k1 (k1 + 1) (k1 + 2) A B M (wx.alloc o) ∧ (wx.alloc o).rangeAt (k1 + 1) 0 (B.map (Value.int .u8)))
  clear hMl
  have hu26 : Tryd.prog.underlying 26 = some (.array 32 5) := by kernel_rfl
  have hi26 : (Tryd.prog.info? 26).map (·.size) = some (B.map (Value.int .u8)).length := by rw [List.length_map, HBl.out]; kernel_rfl
  have hke := fun w => key_in B HBl.out w
  have hkg := key_guard
  have hKT : KS w k1 (k1 + 1) (k1 + 2) A B M w5.drew := hKS5.drew
  have hr5 : w5.drew.rangeAt (k1 + 1) 0 (B.map (Value.int .u8)) := hKS5.2.1.range
  go_region_held3 (fun wx => KS w k1 (k1 + 1) (k1 + 2) A B M wx ∧ wx.rangeAt (k1 + 1) 0 (B.map (Value.int .u8)))
    (first | exact ⟨hKT, hr5⟩ | assumption | exact KA _ _ (by assumption)) (first
    | (have qB := qA; go_at_call 14; refine (CB (w5.drew.alloc (.cells #[.int .u8 227, .int .u8 176, .int .u8 196, .int .u8 66] 5)) _ (by simp) (by assumption)).mono ?_; rintro e w' ⟨rfl, rfl⟩)
    | (go_at_call 14; refine (CA w5.drew _ (by simp) (by assumption)).mono ?_; rintro e w' ⟨rfl, rfl⟩; have qA := hk)
    | (go_at_call 12; refine (CS _ (by assumption)).mono ?_; rintro e w6 ⟨rfl, hKS6⟩)
    | (go_at_call 13; refine (CL _ (by assumption)).mono ?_; rintro e w' ⟨rfl, rfl⟩))
  have hfin : Below w.heap.size w w6 := hKS6.1.2.2.2.2
  clear hKS6 CA CB CS CL KA
  go_wp2_with fail
  go_ret
  exact ⟨rfl, hfin⟩
end Go.Proofs.YtfmfoangndladaaDoor
