/-
  The walk of KeyCompares.
-/
import Derived.Test.YtapojahoaglgaaaDoorKN1
namespace Go.Proofs.YtapojahoaglgaaaDoor
open Go.RowKit

/-- Three keys in memory, one behind the other. -/
def K3 (w : World) (g0 : Nat) (A B C : List Int) (wx : World) : Prop := Ab wx g0 25 A ∧ Ab wx (g0 + 1) 25 B ∧ Ab wx (g0 + 2) 25 C ∧ Glob wx ∧ Below w.heap.size w wx
theorem K3.below {w wx w' : World} {g0 : Nat} {A B C : List Int} (h : K3 w g0 A B C wx) (hg : 0 + 2 + 1 ≤ w.heap.size) (hb : Below wx.heap.size wx w') : K3 w g0 A B C w' :=
  ⟨h.1.below h.1.lt hb, h.2.1.below h.2.1.lt hb, h.2.2.1.below h.2.2.1.lt hb, h.2.2.2.1.below (Nat.le_trans hg h.2.2.2.2.size) hb, h.2.2.2.2.trans (hb.mono h.2.2.2.2.size)⟩
theorem K3.drew {w wx : World} {g0 : Nat} {A B C : List Int} (h : K3 w g0 A B C wx) : K3 w g0 A B C wx.drew := by
  obtain ⟨a, b, c, ⟨⟨t, fr, d⟩, t2, fr2, d2⟩, e⟩ := h
  exact ⟨a, b, c, ⟨⟨t, fr, d⟩, t2, fr2, d2⟩, e.drew⟩
theorem K3.set {w wx : World} {g0 : Nat} {A B C : List Int} (h : K3 w g0 A B C wx) (hg : 0 + 2 + 1 ≤ w.heap.size) (hw : w.heap.size ≤ g0) (i : Nat) (x : Int) : K3 w g0 A (B.set i x) C (wx.setCell ⟨g0 + 1, i, none⟩ (.int .u8 x)) := by
  have hb : Below w.heap.size wx (wx.setCell ⟨g0 + 1, i, none⟩ (.int .u8 x)) := (Below.refl _ wx).setCell (by simp; omega) _
  exact ⟨h.1.far _ (by simp) _, h.2.1.set i x, h.2.2.1.far _ (by simp) _, h.2.2.2.1.below hg hb, h.2.2.2.2.trans hb⟩
theorem less_str : ∀ (A B : List Int), A.length = B.length → (∀ x, x ∈ A → W8 x) → (∀ x, x ∈ B → W8 x) → Op.bytesLess (Lib.bytesOf A) (Lib.bytesOf B) = decide (cmpL A B < 0)
  | [], [], _, _, _ => rfl
  | [], _ :: _, h, _, _ => by simp at h
  | _ :: _, [], h, _, _ => by simp at h
  | a :: A, b :: B, h, hA, hB => by
    have ih := less_str A B (by simpa using h) (fun x hx => hA x (by simp [hx])) (fun x hx => hB x (by simp [hx]))
    have u1 := u8_lt (hA a (by simp)) (hB b (by simp))
    have u2 := u8_lt (hB b (by simp)) (hA a (by simp))
    have e1 : Lib.bytesOf (a :: A) = UInt8.ofNat a.toNat :: Lib.bytesOf A := rfl
    have e2 : Lib.bytesOf (b :: B) = UInt8.ofNat b.toNat :: Lib.bytesOf B := rfl
    rw [e1, e2, Op.bytesLess, ih, cmpL]
    by_cases h1 : a < b
    · rw [if_pos h1]
      simp [u1.2 h1]
    · rw [if_neg h1]
      have n1 : ¬ UInt8.ofNat a.toNat < UInt8.ofNat b.toNat := fun h => h1 (u1.1 h)
      by_cases h2 : b < a
      · rw [if_pos h2]
        have n2 : ¬ UInt8.ofNat a.toNat = UInt8.ofNat b.toNat := fun h => by
          have := u2.2 h2
          rw [h] at this
          exact UInt8.lt_irrefl _ this
        simp [n1, n2]
      · rw [if_neg h2]
        obtain rfl : a = b := by omega
        simp
theorem less_hex {ρ : Operand → Value} {o : Oper} {x y : Operand} (ho : o.op = .binOp .lss 9 x y 9) (A B : List Int) (hl : A.length = B.length) (hA : ∀ x, x ∈ A → W8 x) (hB : ∀ x, x ∈ B → W8 x) (hx : ρ x = .string (strOfNums (hexL A))) (hy : ρ y = .string (strOfNums (hexL B))) (w : World) :
    (execOp ρ o).run Tryd.prog w = .ok (.value (.bool (decide (cmpL A B < 0)))) w := by
  have h := less_str (hexL A) (hexL B) (by rw [hexL_len, hexL_len, hl]) (hexL_byte A hA) (hexL_byte B hB)
  rw [cmpL_hex A B hA hB hl] at h
  unfold execOp
  simp only [ho, hx, hy]
  simp [go_sem, Lib.strOfNums_toList, h]


set_option maxRecDepth 100000 in
set_option maxHeartbeats 40000000 in
theorem cmp_core (A B C : List Int) (s : Int) (w : World) (hA : A.length = 32) (hA8 : ∀ x, x ∈ A → W8 x) (hB : B.length = 32) (hB8 : ∀ x, x ∈ B → W8 x) (hC : C.length = 32) (hC8 : ∀ x, x ∈ C → W8 x) (hs : W8 s) (hG : Glob w) :
    Calls Tryd.prog 4 #[.agg (w8s A), .agg (w8s B), .agg (w8s C), .int .u8 s] w fun e w' => e = .returned (.bool true) ∧ Below w.heap.size w w' := by
  have hg2 := hG.size
  have HG2 := Lib.hid hg2
  obtain ⟨s0, s1⟩ := hs
  obtain ⟨m, hm⟩ := Int.eq_ofNat_of_zero_le (show 0 ≤ s % 33 by omega)
  have hm32 : m ≤ 32 := by omega
  have HA := Lib.hid hA
  have HA8 := Lib.hid hA8
  have HC := Lib.hid hC
  have HC8 := Lib.hid hC8
  have hK0 : K3 w w.heap.size A B C (((w.alloc (.cells (w8s A) 25)).alloc (.cells (w8s B) 25)).alloc (.cells (w8s C) 25)) := by
    have h1 : Ab (w.alloc (.cells (w8s A) 25)) w.heap.size 25 A := heap_alloc_last w _
    have h2 : Ab ((w.alloc (.cells (w8s A) 25)).alloc (.cells (w8s B) 25)) (w.heap.size + 1) 25 B := by
      have := heap_alloc_last (w.alloc (.cells (w8s A) 25)) (.cells (w8s B) 25)
      simpa [Ab] using this
    have h3 : Ab (((w.alloc (.cells (w8s A) 25)).alloc (.cells (w8s B) 25)).alloc (.cells (w8s C) 25)) (w.heap.size + 2) 25 C := by
      have := heap_alloc_last ((w.alloc (.cells (w8s A) 25)).alloc (.cells (w8s B) 25)) (.cells (w8s C) 25)
      simpa [Ab] using this
    have hb : Below w.heap.size w (((w.alloc (.cells (w8s A) 25)).alloc (.cells (w8s B) 25)).alloc (.cells (w8s C) 25)) := (((Below.refl _ w).alloc (by simp) _).alloc (by simp) _).alloc (by simp; omega) _
    exact ⟨(h1.alloc _).alloc _, h2.alloc _, h3, hG.below hg2 hb, hb⟩
  have HK0 := Lib.hid hK0
  clear hA hA8 hC hC8 hK0 hG hg2
  go_enter Tryd.func4, Tryd.ntmps4
  go_upto_region 1 with fail
  generalize ((w.alloc (.cells (w8s A) 25)).alloc (.cells (w8s B) 25)).alloc (.cells (w8s C) 25) = W at *
  generalize hg0 : w.heap.size = g0 at *
  have HG0 := Lib.hid hg0
  clear hg0
  rw [show g0 + 1 + 1 = g0 + 2 from rfl]
  go_wp2_with fail
  go_loopg [9] 32 (fun g s9 wx => ∃ (i : Nat) (D : List Int), i ≤ 32 ∧ s9 = .int .i64 i ∧ D.length = 32 ∧ (∀ x, x ∈ D → W8 x) ∧ K3 w g0 A D C wx ∧ 32 - i = g)
  case atStart => exact ⟨0, B, by omega, by go_num, hB, hB8, HK0.out, rfl⟩
  case round =>
    clear HK0 hB hB8 W
    obtain ⟨i, D, hi, rfl, hB, hB8, hK, hgk⟩ := hrel
    by_cases hlt : i < m
    · have hd1 : decide ((i : Int) < (m : Int)) = true := decide_eq_true (by omega)
      have hd2 : decide ((i : Int) < 32) = true := decide_eq_true (by omega)
      have xa := hK.1.cell i (by rw [HA.out]; omega)
      have xb := hK.2.1.cell i (by rw [hB]; omega)
      have xf := hK.2.1.frozen i
      have x8 := W8.getD HA8.out i (by rw [HA.out]; omega)
      have hK2 := hK.set (by have := HG2.out; have := HG0.out; omega) (by have := HG0.out; omega) i (A.getD i 0)
      have hB2 : (D.set i (A.getD i 0)).length = 32 := by rw [List.length_set, hB]
      have hB3 : ∀ x, x ∈ D.set i (A.getD i 0) → W8 x := fun x hx => by
        rcases List.mem_or_eq_of_mem_set hx with h | h
        · exact hB8 x h
        · rw [h]; exact x8
      have HK2 := Lib.hid hK2
      have HB2 := Lib.hid hB2
      have HB3 := Lib.hid hB3
      clear hK2 hB2 hB3 hK hB hB8 x8
      generalize D.getD i 0 = y at *
      generalize A.getD i 0 = x at *
      go_wp2_with fail
      go_roundg (32 - (i + 1))
      case measure => omega
      case rel => exact ⟨i + 1, D.set i x, by omega, by go_num, HB2.out, HB3.out, HK2.out, rfl⟩
    · have hd1 : decide ((i : Int) < (m : Int)) = false := decide_eq_false (by omega)
      have HB := Lib.hid hB
      have HB8 := Lib.hid hB8
      have HK := Lib.hid hK
      clear hK hB hB8
      have hgw : 0 + 2 + 1 ≤ w.heap.size := by have := HG2.out; have := HG0.out; omega
      have hlAD : A.length = D.length := HA.out.trans HB.out.symm
      have CAB := fun (V : World) (h : K3 w g0 A D C V) => (cmp_any A D V HA.out HB.out HA8.out HB8.out).mono fun e w' (hx : e = .returned (.int .i64 (cmpL A D)) ∧ Below V.heap.size V w') => (⟨hx.1, h.below hgw hx.2⟩ : e = .returned (.int .i64 (cmpL A D)) ∧ K3 w g0 A D C w')
      have CR := fun (V : World) (h : K3 w g0 A D C V) => (refcmp_any A D V HA.out HB.out).mono fun e w' (hx : e = .returned (.int .i64 (cmpL A D)) ∧ Below V.heap.size V w') => (⟨hx.1, h.below hgw hx.2⟩ : e = .returned (.int .i64 (cmpL A D)) ∧ K3 w g0 A D C w')
      have CB := fun (V : World) (h : K3 w g0 A D C V) => (cmp_any D A V HB.out HA.out HB8.out HA8.out).mono fun e w' (hx : e = .returned (.int .i64 (cmpL D A)) ∧ Below V.heap.size V w') => (⟨hx.1, h.below hgw hx.2⟩ : e = .returned (.int .i64 (cmpL D A)) ∧ K3 w g0 A D C w')
      have CP := fun (V : World) (h : K3 w g0 A D C V) => (cmp_any D C V HB.out HC.out HB8.out HC8.out).mono fun e w' (hx : e = .returned (.int .i64 (cmpL D C)) ∧ Below V.heap.size V w') => (⟨hx.1, h.below hgw hx.2⟩ : e = .returned (.int .i64 (cmpL D C)) ∧ K3 w g0 A D C w')
      have CQ := fun (V : World) (h : K3 w g0 A D C V) => (cmp_any A C V HA.out HC.out HA8.out HC8.out).mono fun e w' (hx : e = .returned (.int .i64 (cmpL A C)) ∧ Below V.heap.size V w') => (⟨hx.1, h.below hgw hx.2⟩ : e = .returned (.int .i64 (cmpL A C)) ∧ K3 w g0 A D C w')
      have CFA := fun (V : World) (h : K3 w g0 A D C V) => (fmt_any A V HA.out HA8.out).mono fun e w' (hx : e = .returned (.string (strOfNums (hexL A))) ∧ Below V.heap.size V w') => (⟨hx.1, h.below hgw hx.2⟩ : e = .returned (.string (strOfNums (hexL A))) ∧ K3 w g0 A D C w')
      have CFB := fun (V : World) (h : K3 w g0 A D C V) => (fmt_any D V HB.out HB8.out).mono fun e w' (hx : e = .returned (.string (strOfNums (hexL D))) ∧ Below V.heap.size V w') => (⟨hx.1, h.below hgw hx.2⟩ : e = .returned (.string (strOfNums (hexL D))) ∧ K3 w g0 A D C w')
      have CK := fun (V : World) (h : K3 w g0 A D C V) => (known_true V h.2.2.2.1).mono fun e w' (hx : e = .returned (.bool true) ∧ Below V.heap.size V w') => (⟨hx.1, h.below hgw hx.2⟩ : e = .returned (.bool true) ∧ K3 w g0 A D C w')
      have hAn := cmpL_anti A D hlAD
      have hz := cmpL_zero hlAD
      have htr := cmpL_trans A D C hlAD (HB.out.trans HC.out.symm)
      have hrC := cmpL_range A C
      rcases cmpL_range A D with hn | hn | hn
      · have HE : Hid ((A == D) = false) := Lib.hid (by rw [beq_eq_false_iff_ne]; intro h; have := hz.2 h; omega)
        have HD : Hid (decide (cmpL A D < 0) = true) := Lib.hid (decide_eq_true (by omega))
        have hAn2 : cmpL D A = 1 := by omega
        rw [hn] at CAB CR
        rw [hAn2] at CB
        rcases cmpL_range D C with hp | hp | hp
        · have hq : cmpL A C = -1 := by have := htr (by omega) (by omega); omega
          rw [hp] at CP
          rw [hq] at CQ
          clear hAn hz htr hrC hn hAn2 hp hq
          go_upto_region 5 with fail
          have hK := HK.out
          clear HK
          apply wp_region_lit
          refine gw_load (by kernel_rfl) (some 27) rfl 25 (.tmp 4) rfl ⟨g0, 0, none⟩ (.agg (w8s A)) (by kernel_rfl) (load_key hK.1 HA.out) ?_
          simp only [Act.put, List.setIfInBounds_toArray, List.set_cons_succ, List.set_cons_zero]
          refine gw_load (by kernel_rfl) (some 28) rfl 25 (.tmp 5) rfl ⟨g0 + 1, 0, none⟩ (.agg (w8s D)) (by kernel_rfl) (load_key hK.2.1 HB.out) ?_
          simp only [Act.put, List.setIfInBounds_toArray, List.set_cons_succ, List.set_cons_zero]
          refine gw_call (by kernel_rfl) (some 29) rfl 10 #[.agg (w8s A), .agg (w8s D)] (.int .i64 (-1)) (K3 w g0 A D C) (by kernel_rfl) (CAB _ hK) (fun V1 hK' => ?_)
          clear hK
          have hK := hK'
          clear hK'
          simp only [Act.put, List.setIfInBounds_toArray, List.set_cons_succ, List.set_cons_zero]
          refine gw_val (by kernel_rfl) (some 10) rfl (.int .i64 (-1)) (by kernel_rfl) ?_
          simp only [Act.put, List.setIfInBounds_toArray, List.set_cons_succ, List.set_cons_zero]
          apply wpList_nil
          go_upto_region 6 with fail
          apply wp_region_lit
          refine gw_val (by kernel_rfl) (some 30) rfl (.int .i64 (-1)) (by kernel_rfl) ?_
          simp only [Act.put, List.setIfInBounds_toArray, List.set_cons_succ, List.set_cons_zero]
          refine gw_load (by kernel_rfl) (some 31) rfl 25 (.tmp 4) rfl ⟨g0, 0, none⟩ (.agg (w8s A)) (by kernel_rfl) (load_key hK.1 HA.out) ?_
          simp only [Act.put, List.setIfInBounds_toArray, List.set_cons_succ, List.set_cons_zero]
          refine gw_load (by kernel_rfl) (some 32) rfl 25 (.tmp 5) rfl ⟨g0 + 1, 0, none⟩ (.agg (w8s D)) (by kernel_rfl) (load_key hK.2.1 HB.out) ?_
          simp only [Act.put, List.setIfInBounds_toArray, List.set_cons_succ, List.set_cons_zero]
          refine gw_call (by kernel_rfl) (some 33) rfl 11 #[.agg (w8s A), .agg (w8s D)] (.int .i64 (-1)) (K3 w g0 A D C) (by kernel_rfl) (CR _ hK) (fun V2 hK' => ?_)
          clear hK
          have hK := hK'
          clear hK'
          simp only [Act.put, List.setIfInBounds_toArray, List.set_cons_succ, List.set_cons_zero]
          refine gw_val (by kernel_rfl) (some 34) rfl (.bool false) (by kernel_rfl) ?_
          simp only [Act.put, List.setIfInBounds_toArray, List.set_cons_succ, List.set_cons_zero]
          refine gw_val (by kernel_rfl) (some 35) rfl (.bool false) (by kernel_rfl) ?_
          simp only [Act.put, List.setIfInBounds_toArray, List.set_cons_succ, List.set_cons_zero]
          refine gw_load (by kernel_rfl) (some 36) rfl 25 (.tmp 5) rfl ⟨g0 + 1, 0, none⟩ (.agg (w8s D)) (by kernel_rfl) (load_key hK.2.1 HB.out) ?_
          simp only [Act.put, List.setIfInBounds_toArray, List.set_cons_succ, List.set_cons_zero]
          refine gw_load (by kernel_rfl) (some 37) rfl 25 (.tmp 4) rfl ⟨g0, 0, none⟩ (.agg (w8s A)) (by kernel_rfl) (load_key hK.1 HA.out) ?_
          simp only [Act.put, List.setIfInBounds_toArray, List.set_cons_succ, List.set_cons_zero]
          refine gw_call (by kernel_rfl) (some 38) rfl 10 #[.agg (w8s D), .agg (w8s A)] (.int .i64 1) (K3 w g0 A D C) (by kernel_rfl) (CB _ hK) (fun V3 hK' => ?_)
          clear hK
          have hK := hK'
          clear hK'
          simp only [Act.put, List.setIfInBounds_toArray, List.set_cons_succ, List.set_cons_zero]
          refine gw_val (by kernel_rfl) (some 39) rfl (.int .i64 (-1)) (by kernel_rfl) ?_
          simp only [Act.put, List.setIfInBounds_toArray, List.set_cons_succ, List.set_cons_zero]
          refine gw_val (by kernel_rfl) (some 40) rfl (.int .i64 1) (by kernel_rfl) ?_
          simp only [Act.put, List.setIfInBounds_toArray, List.set_cons_succ, List.set_cons_zero]
          refine gw_val (by kernel_rfl) (some 41) rfl (.bool false) (by kernel_rfl) ?_
          simp only [Act.put, List.setIfInBounds_toArray, List.set_cons_succ, List.set_cons_zero]
          refine gw_val (by kernel_rfl) (some 42) rfl (.bool false) (by kernel_rfl) ?_
          simp only [Act.put, List.setIfInBounds_toArray, List.set_cons_succ, List.set_cons_zero]
          refine gw_val (by kernel_rfl) (some 43) rfl (.bool false) (by kernel_rfl) ?_
          simp only [Act.put, List.setIfInBounds_toArray, List.set_cons_succ, List.set_cons_zero]
          refine gw_val (by kernel_rfl) (some 44) rfl (.int .i64 (-1)) (by kernel_rfl) ?_
          simp only [Act.put, List.setIfInBounds_toArray, List.set_cons_succ, List.set_cons_zero]
          refine gw_val (by kernel_rfl) (some 45) rfl (.bool false) (by kernel_rfl) ?_
          simp only [Act.put, List.setIfInBounds_toArray, List.set_cons_succ, List.set_cons_zero]
          refine gw_load (by kernel_rfl) (some 46) rfl 25 (.tmp 4) rfl ⟨g0, 0, none⟩ (.agg (w8s A)) (by kernel_rfl) (load_key hK.1 HA.out) ?_
          simp only [Act.put, List.setIfInBounds_toArray, List.set_cons_succ, List.set_cons_zero]
          refine gw_load (by kernel_rfl) (some 47) rfl 25 (.tmp 5) rfl ⟨g0 + 1, 0, none⟩ (.agg (w8s D)) (by kernel_rfl) (load_key hK.2.1 HB.out) ?_
          simp only [Act.put, List.setIfInBounds_toArray, List.set_cons_succ, List.set_cons_zero]
          refine gw_val (by kernel_rfl) (some 48) rfl (.bool (A == D)) (eq_key rfl A D HA.out HB.out (by kernel_rfl) (by kernel_rfl) _) ?_
          rw [HE.out]
          simp only [Act.put, List.setIfInBounds_toArray, List.set_cons_succ, List.set_cons_zero]
          refine gw_val (by kernel_rfl) (some 49) rfl (.bool false) (by kernel_rfl) ?_
          simp only [Act.put, List.setIfInBounds_toArray, List.set_cons_succ, List.set_cons_zero]
          refine gw_val (by kernel_rfl) (some 50) rfl (.bool false) (by kernel_rfl) ?_
          simp only [Act.put, List.setIfInBounds_toArray, List.set_cons_succ, List.set_cons_zero]
          refine gw_val (by kernel_rfl) (some 51) rfl (.bool false) (by kernel_rfl) ?_
          simp only [Act.put, List.setIfInBounds_toArray, List.set_cons_succ, List.set_cons_zero]
          refine gw_val (by kernel_rfl) (some 52) rfl (.int .i64 (-1)) (by kernel_rfl) ?_
          simp only [Act.put, List.setIfInBounds_toArray, List.set_cons_succ, List.set_cons_zero]
          refine gw_val (by kernel_rfl) (some 53) rfl (.bool true) (by kernel_rfl) ?_
          simp only [Act.put, List.setIfInBounds_toArray, List.set_cons_succ, List.set_cons_zero]
          refine gw_val (by kernel_rfl) (some 54) rfl (.bool true) (by kernel_rfl) ?_
          simp only [Act.put, List.setIfInBounds_toArray, List.set_cons_succ, List.set_cons_zero]
          refine gw_load (by kernel_rfl) (some 55) rfl 25 (.tmp 5) rfl ⟨g0 + 1, 0, none⟩ (.agg (w8s D)) (by kernel_rfl) (load_key hK.2.1 HB.out) ?_
          simp only [Act.put, List.setIfInBounds_toArray, List.set_cons_succ, List.set_cons_zero]
          refine gw_load (by kernel_rfl) (some 56) rfl 25 (.tmp 6) rfl ⟨g0 + 2, 0, none⟩ (.agg (w8s C)) (by kernel_rfl) (load_key hK.2.2.1 HC.out) ?_
          simp only [Act.put, List.setIfInBounds_toArray, List.set_cons_succ, List.set_cons_zero]
          refine gw_call (by kernel_rfl) (some 57) rfl 10 #[.agg (w8s D), .agg (w8s C)] (.int .i64 (-1)) (K3 w g0 A D C) (by kernel_rfl) (CP _ hK) (fun V4 hK' => ?_)
          clear hK
          have hK := hK'
          clear hK'
          simp only [Act.put, List.setIfInBounds_toArray, List.set_cons_succ, List.set_cons_zero]
          refine gw_val (by kernel_rfl) (some 58) rfl (.bool true) (by kernel_rfl) ?_
          simp only [Act.put, List.setIfInBounds_toArray, List.set_cons_succ, List.set_cons_zero]
          refine gw_val (by kernel_rfl) (some 59) rfl (.bool true) (by kernel_rfl) ?_
          simp only [Act.put, List.setIfInBounds_toArray, List.set_cons_succ, List.set_cons_zero]
          refine gw_val (by kernel_rfl) (some 60) rfl (.bool true) (by kernel_rfl) ?_
          simp only [Act.put, List.setIfInBounds_toArray, List.set_cons_succ, List.set_cons_zero]
          refine gw_load (by kernel_rfl) (some 61) rfl 25 (.tmp 4) rfl ⟨g0, 0, none⟩ (.agg (w8s A)) (by kernel_rfl) (load_key hK.1 HA.out) ?_
          simp only [Act.put, List.setIfInBounds_toArray, List.set_cons_succ, List.set_cons_zero]
          refine gw_load (by kernel_rfl) (some 62) rfl 25 (.tmp 6) rfl ⟨g0 + 2, 0, none⟩ (.agg (w8s C)) (by kernel_rfl) (load_key hK.2.2.1 HC.out) ?_
          simp only [Act.put, List.setIfInBounds_toArray, List.set_cons_succ, List.set_cons_zero]
          refine gw_call (by kernel_rfl) (some 63) rfl 10 #[.agg (w8s A), .agg (w8s C)] (.int .i64 (-1)) (K3 w g0 A D C) (by kernel_rfl) (CQ _ hK) (fun V5 hK' => ?_)
          clear hK
          have hK := hK'
          clear hK'
          simp only [Act.put, List.setIfInBounds_toArray, List.set_cons_succ, List.set_cons_zero]
          refine gw_val (by kernel_rfl) (some 64) rfl (.bool false) (by kernel_rfl) ?_
          simp only [Act.put, List.setIfInBounds_toArray, List.set_cons_succ, List.set_cons_zero]
          refine gw_val (by kernel_rfl) (some 65) rfl (.bool false) (by kernel_rfl) ?_
          simp only [Act.put, List.setIfInBounds_toArray, List.set_cons_succ, List.set_cons_zero]
          refine gw_val (by kernel_rfl) (some 66) rfl (.bool false) (by kernel_rfl) ?_
          simp only [Act.put, List.setIfInBounds_toArray, List.set_cons_succ, List.set_cons_zero]
          apply wpList_nil
          go_upto_region 8 with fail
          refine wp_region_class (C := K3 w g0 A D C) (by kernel_rfl) (by kernel_rfl) hK.drew ?_
          refine gq_val (by kernel_rfl) (some 67) rfl (.int .i64 (-1)) (fun w' _ => by kernel_rfl) ?_
          simp only [Act.put, List.setIfInBounds_toArray, List.set_cons_succ, List.set_cons_zero]
          refine gq_val (by kernel_rfl) (some 68) rfl (.bool true) (fun w' _ => by kernel_rfl) ?_
          simp only [Act.put, List.setIfInBounds_toArray, List.set_cons_succ, List.set_cons_zero]
          refine gq_load (by kernel_rfl) (some 69) rfl 25 (.tmp 4) rfl ⟨g0, 0, none⟩ (.agg (w8s A)) (by kernel_rfl) (fun w' hC => load_key hC.1 HA.out) ?_
          simp only [Act.put, List.setIfInBounds_toArray, List.set_cons_succ, List.set_cons_zero]
          refine gq_call (by kernel_rfl) (some 70) rfl 12 #[.agg (w8s A)] (.string (strOfNums (hexL A))) (fun w' _ => by kernel_rfl) (fun w' hC => CFA w' hC) ?_
          simp only [Act.put, List.setIfInBounds_toArray, List.set_cons_succ, List.set_cons_zero]
          refine gq_load (by kernel_rfl) (some 71) rfl 25 (.tmp 5) rfl ⟨g0 + 1, 0, none⟩ (.agg (w8s D)) (by kernel_rfl) (fun w' hC => load_key hC.2.1 HB.out) ?_
          simp only [Act.put, List.setIfInBounds_toArray, List.set_cons_succ, List.set_cons_zero]
          refine gq_call (by kernel_rfl) (some 72) rfl 12 #[.agg (w8s D)] (.string (strOfNums (hexL D))) (fun w' _ => by kernel_rfl) (fun w' hC => CFB w' hC) ?_
          simp only [Act.put, List.setIfInBounds_toArray, List.set_cons_succ, List.set_cons_zero]
          refine gq_val (by kernel_rfl) (some 73) rfl (.bool (decide (cmpL A D < 0))) (fun w' _ => less_hex rfl A D (HA.out.trans HB.out.symm) HA8.out HB8.out (by kernel_rfl) (by kernel_rfl) w') ?_
          simp only [Act.put, List.setIfInBounds_toArray, List.set_cons_succ, List.set_cons_zero]
          rw [HD.out]
          refine gq_val (by kernel_rfl) (some 74) rfl (.bool true) (fun w' _ => by kernel_rfl) ?_
          simp only [Act.put, List.setIfInBounds_toArray, List.set_cons_succ, List.set_cons_zero]
          refine gq_val (by kernel_rfl) (some 75) rfl (.bool true) (fun w' _ => by kernel_rfl) ?_
          simp only [Act.put, List.setIfInBounds_toArray, List.set_cons_succ, List.set_cons_zero]
          refine gq_call (by kernel_rfl) (some 76) rfl 7 #[] (.bool true) (fun w' _ => by kernel_rfl) (fun w' hC => CK w' hC) ?_
          simp only [Act.put, List.setIfInBounds_toArray, List.set_cons_succ, List.set_cons_zero]
          refine gq_val (by kernel_rfl) (some 77) rfl (.bool true) (fun w' _ => by kernel_rfl) ?_
          simp only [Act.put, List.setIfInBounds_toArray, List.set_cons_succ, List.set_cons_zero]
          refine gq_val (by kernel_rfl) (some 8) rfl (.bool true) (fun w' _ => by kernel_rfl) ?_
          simp only [Act.put, List.setIfInBounds_toArray, List.set_cons_succ, List.set_cons_zero]
          refine wpQuiet_nil ?_
          intro w' hC
          have HW := Lib.hid hC.2.2.2.2
          clear hC hK
          go_wp2_with fail
          go_ret
          exact ⟨rfl, HW.out⟩
        · rw [hp] at CP
          clear hAn hz htr hrC hn hAn2 hp CQ
          go_upto_region 5 with fail
          have hK := HK.out
          clear HK
          apply wp_region_lit
          refine gw_load (by kernel_rfl) (some 27) rfl 25 (.tmp 4) rfl ⟨g0, 0, none⟩ (.agg (w8s A)) (by kernel_rfl) (load_key hK.1 HA.out) ?_
          simp only [Act.put, List.setIfInBounds_toArray, List.set_cons_succ, List.set_cons_zero]
          refine gw_load (by kernel_rfl) (some 28) rfl 25 (.tmp 5) rfl ⟨g0 + 1, 0, none⟩ (.agg (w8s D)) (by kernel_rfl) (load_key hK.2.1 HB.out) ?_
          simp only [Act.put, List.setIfInBounds_toArray, List.set_cons_succ, List.set_cons_zero]
          refine gw_call (by kernel_rfl) (some 29) rfl 10 #[.agg (w8s A), .agg (w8s D)] (.int .i64 (-1)) (K3 w g0 A D C) (by kernel_rfl) (CAB _ hK) (fun V6 hK' => ?_)
          clear hK
          have hK := hK'
          clear hK'
          simp only [Act.put, List.setIfInBounds_toArray, List.set_cons_succ, List.set_cons_zero]
          refine gw_val (by kernel_rfl) (some 10) rfl (.int .i64 (-1)) (by kernel_rfl) ?_
          simp only [Act.put, List.setIfInBounds_toArray, List.set_cons_succ, List.set_cons_zero]
          apply wpList_nil
          go_upto_region 6 with fail
          apply wp_region_lit
          refine gw_val (by kernel_rfl) (some 30) rfl (.int .i64 (-1)) (by kernel_rfl) ?_
          simp only [Act.put, List.setIfInBounds_toArray, List.set_cons_succ, List.set_cons_zero]
          refine gw_load (by kernel_rfl) (some 31) rfl 25 (.tmp 4) rfl ⟨g0, 0, none⟩ (.agg (w8s A)) (by kernel_rfl) (load_key hK.1 HA.out) ?_
          simp only [Act.put, List.setIfInBounds_toArray, List.set_cons_succ, List.set_cons_zero]
          refine gw_load (by kernel_rfl) (some 32) rfl 25 (.tmp 5) rfl ⟨g0 + 1, 0, none⟩ (.agg (w8s D)) (by kernel_rfl) (load_key hK.2.1 HB.out) ?_
          simp only [Act.put, List.setIfInBounds_toArray, List.set_cons_succ, List.set_cons_zero]
          refine gw_call (by kernel_rfl) (some 33) rfl 11 #[.agg (w8s A), .agg (w8s D)] (.int .i64 (-1)) (K3 w g0 A D C) (by kernel_rfl) (CR _ hK) (fun V7 hK' => ?_)
          clear hK
          have hK := hK'
          clear hK'
          simp only [Act.put, List.setIfInBounds_toArray, List.set_cons_succ, List.set_cons_zero]
          refine gw_val (by kernel_rfl) (some 34) rfl (.bool false) (by kernel_rfl) ?_
          simp only [Act.put, List.setIfInBounds_toArray, List.set_cons_succ, List.set_cons_zero]
          refine gw_val (by kernel_rfl) (some 35) rfl (.bool false) (by kernel_rfl) ?_
          simp only [Act.put, List.setIfInBounds_toArray, List.set_cons_succ, List.set_cons_zero]
          refine gw_load (by kernel_rfl) (some 36) rfl 25 (.tmp 5) rfl ⟨g0 + 1, 0, none⟩ (.agg (w8s D)) (by kernel_rfl) (load_key hK.2.1 HB.out) ?_
          simp only [Act.put, List.setIfInBounds_toArray, List.set_cons_succ, List.set_cons_zero]
          refine gw_load (by kernel_rfl) (some 37) rfl 25 (.tmp 4) rfl ⟨g0, 0, none⟩ (.agg (w8s A)) (by kernel_rfl) (load_key hK.1 HA.out) ?_
          simp only [Act.put, List.setIfInBounds_toArray, List.set_cons_succ, List.set_cons_zero]
          refine gw_call (by kernel_rfl) (some 38) rfl 10 #[.agg (w8s D), .agg (w8s A)] (.int .i64 1) (K3 w g0 A D C) (by kernel_rfl) (CB _ hK) (fun V8 hK' => ?_)
          clear hK
          have hK := hK'
          clear hK'
          simp only [Act.put, List.setIfInBounds_toArray, List.set_cons_succ, List.set_cons_zero]
          refine gw_val (by kernel_rfl) (some 39) rfl (.int .i64 (-1)) (by kernel_rfl) ?_
          simp only [Act.put, List.setIfInBounds_toArray, List.set_cons_succ, List.set_cons_zero]
          refine gw_val (by kernel_rfl) (some 40) rfl (.int .i64 1) (by kernel_rfl) ?_
          simp only [Act.put, List.setIfInBounds_toArray, List.set_cons_succ, List.set_cons_zero]
          refine gw_val (by kernel_rfl) (some 41) rfl (.bool false) (by kernel_rfl) ?_
          simp only [Act.put, List.setIfInBounds_toArray, List.set_cons_succ, List.set_cons_zero]
          refine gw_val (by kernel_rfl) (some 42) rfl (.bool false) (by kernel_rfl) ?_
          simp only [Act.put, List.setIfInBounds_toArray, List.set_cons_succ, List.set_cons_zero]
          refine gw_val (by kernel_rfl) (some 43) rfl (.bool false) (by kernel_rfl) ?_
          simp only [Act.put, List.setIfInBounds_toArray, List.set_cons_succ, List.set_cons_zero]
          refine gw_val (by kernel_rfl) (some 44) rfl (.int .i64 (-1)) (by kernel_rfl) ?_
          simp only [Act.put, List.setIfInBounds_toArray, List.set_cons_succ, List.set_cons_zero]
          refine gw_val (by kernel_rfl) (some 45) rfl (.bool false) (by kernel_rfl) ?_
          simp only [Act.put, List.setIfInBounds_toArray, List.set_cons_succ, List.set_cons_zero]
          refine gw_load (by kernel_rfl) (some 46) rfl 25 (.tmp 4) rfl ⟨g0, 0, none⟩ (.agg (w8s A)) (by kernel_rfl) (load_key hK.1 HA.out) ?_
          simp only [Act.put, List.setIfInBounds_toArray, List.set_cons_succ, List.set_cons_zero]
          refine gw_load (by kernel_rfl) (some 47) rfl 25 (.tmp 5) rfl ⟨g0 + 1, 0, none⟩ (.agg (w8s D)) (by kernel_rfl) (load_key hK.2.1 HB.out) ?_
          simp only [Act.put, List.setIfInBounds_toArray, List.set_cons_succ, List.set_cons_zero]
          refine gw_val (by kernel_rfl) (some 48) rfl (.bool (A == D)) (eq_key rfl A D HA.out HB.out (by kernel_rfl) (by kernel_rfl) _) ?_
          rw [HE.out]
          simp only [Act.put, List.setIfInBounds_toArray, List.set_cons_succ, List.set_cons_zero]
          refine gw_val (by kernel_rfl) (some 49) rfl (.bool false) (by kernel_rfl) ?_
          simp only [Act.put, List.setIfInBounds_toArray, List.set_cons_succ, List.set_cons_zero]
          refine gw_val (by kernel_rfl) (some 50) rfl (.bool false) (by kernel_rfl) ?_
          simp only [Act.put, List.setIfInBounds_toArray, List.set_cons_succ, List.set_cons_zero]
          refine gw_val (by kernel_rfl) (some 51) rfl (.bool false) (by kernel_rfl) ?_
          simp only [Act.put, List.setIfInBounds_toArray, List.set_cons_succ, List.set_cons_zero]
          refine gw_val (by kernel_rfl) (some 52) rfl (.int .i64 (-1)) (by kernel_rfl) ?_
          simp only [Act.put, List.setIfInBounds_toArray, List.set_cons_succ, List.set_cons_zero]
          refine gw_val (by kernel_rfl) (some 53) rfl (.bool true) (by kernel_rfl) ?_
          simp only [Act.put, List.setIfInBounds_toArray, List.set_cons_succ, List.set_cons_zero]
          refine gw_val (by kernel_rfl) (some 54) rfl (.bool true) (by kernel_rfl) ?_
          simp only [Act.put, List.setIfInBounds_toArray, List.set_cons_succ, List.set_cons_zero]
          refine gw_load (by kernel_rfl) (some 55) rfl 25 (.tmp 5) rfl ⟨g0 + 1, 0, none⟩ (.agg (w8s D)) (by kernel_rfl) (load_key hK.2.1 HB.out) ?_
          simp only [Act.put, List.setIfInBounds_toArray, List.set_cons_succ, List.set_cons_zero]
          refine gw_load (by kernel_rfl) (some 56) rfl 25 (.tmp 6) rfl ⟨g0 + 2, 0, none⟩ (.agg (w8s C)) (by kernel_rfl) (load_key hK.2.2.1 HC.out) ?_
          simp only [Act.put, List.setIfInBounds_toArray, List.set_cons_succ, List.set_cons_zero]
          refine gw_call (by kernel_rfl) (some 57) rfl 10 #[.agg (w8s D), .agg (w8s C)] (.int .i64 0) (K3 w g0 A D C) (by kernel_rfl) (CP _ hK) (fun V9 hK' => ?_)
          clear hK
          have hK := hK'
          clear hK'
          simp only [Act.put, List.setIfInBounds_toArray, List.set_cons_succ, List.set_cons_zero]
          refine gw_val (by kernel_rfl) (some 58) rfl (.bool false) (by kernel_rfl) ?_
          simp only [Act.put, List.setIfInBounds_toArray, List.set_cons_succ, List.set_cons_zero]
          refine gw_val (by kernel_rfl) (some 59) rfl (.bool false) (by kernel_rfl) ?_
          simp only [Act.put, List.setIfInBounds_toArray, List.set_cons_succ, List.set_cons_zero]
          refine gw_val (by kernel_rfl) (some 60) rfl (.bool false) (by kernel_rfl) ?_
          simp only [Act.put, List.setIfInBounds_toArray, List.set_cons_succ, List.set_cons_zero]
          refine gw_not (by kernel_rfl) (some 61) rfl ?_
          simp only [Act.put, List.setIfInBounds_toArray, List.set_cons_succ, List.set_cons_zero]
          refine gw_not (by kernel_rfl) (some 62) rfl ?_
          simp only [Act.put, List.setIfInBounds_toArray, List.set_cons_succ, List.set_cons_zero]
          refine gw_not (by kernel_rfl) (some 63) rfl ?_
          simp only [Act.put, List.setIfInBounds_toArray, List.set_cons_succ, List.set_cons_zero]
          refine gw_not (by kernel_rfl) (some 64) rfl ?_
          simp only [Act.put, List.setIfInBounds_toArray, List.set_cons_succ, List.set_cons_zero]
          refine gw_val (by kernel_rfl) (some 65) rfl (.bool false) (by kernel_rfl) ?_
          simp only [Act.put, List.setIfInBounds_toArray, List.set_cons_succ, List.set_cons_zero]
          refine gw_val (by kernel_rfl) (some 66) rfl (.bool false) (by kernel_rfl) ?_
          simp only [Act.put, List.setIfInBounds_toArray, List.set_cons_succ, List.set_cons_zero]
          apply wpList_nil
          go_upto_region 8 with fail
          refine wp_region_class (C := K3 w g0 A D C) (by kernel_rfl) (by kernel_rfl) hK.drew ?_
          refine gq_val (by kernel_rfl) (some 67) rfl (.int .i64 (-1)) (fun w' _ => by kernel_rfl) ?_
          simp only [Act.put, List.setIfInBounds_toArray, List.set_cons_succ, List.set_cons_zero]
          refine gq_val (by kernel_rfl) (some 68) rfl (.bool true) (fun w' _ => by kernel_rfl) ?_
          simp only [Act.put, List.setIfInBounds_toArray, List.set_cons_succ, List.set_cons_zero]
          refine gq_load (by kernel_rfl) (some 69) rfl 25 (.tmp 4) rfl ⟨g0, 0, none⟩ (.agg (w8s A)) (by kernel_rfl) (fun w' hC => load_key hC.1 HA.out) ?_
          simp only [Act.put, List.setIfInBounds_toArray, List.set_cons_succ, List.set_cons_zero]
          refine gq_call (by kernel_rfl) (some 70) rfl 12 #[.agg (w8s A)] (.string (strOfNums (hexL A))) (fun w' _ => by kernel_rfl) (fun w' hC => CFA w' hC) ?_
          simp only [Act.put, List.setIfInBounds_toArray, List.set_cons_succ, List.set_cons_zero]
          refine gq_load (by kernel_rfl) (some 71) rfl 25 (.tmp 5) rfl ⟨g0 + 1, 0, none⟩ (.agg (w8s D)) (by kernel_rfl) (fun w' hC => load_key hC.2.1 HB.out) ?_
          simp only [Act.put, List.setIfInBounds_toArray, List.set_cons_succ, List.set_cons_zero]
          refine gq_call (by kernel_rfl) (some 72) rfl 12 #[.agg (w8s D)] (.string (strOfNums (hexL D))) (fun w' _ => by kernel_rfl) (fun w' hC => CFB w' hC) ?_
          simp only [Act.put, List.setIfInBounds_toArray, List.set_cons_succ, List.set_cons_zero]
          refine gq_val (by kernel_rfl) (some 73) rfl (.bool (decide (cmpL A D < 0))) (fun w' _ => less_hex rfl A D (HA.out.trans HB.out.symm) HA8.out HB8.out (by kernel_rfl) (by kernel_rfl) w') ?_
          simp only [Act.put, List.setIfInBounds_toArray, List.set_cons_succ, List.set_cons_zero]
          rw [HD.out]
          refine gq_val (by kernel_rfl) (some 74) rfl (.bool true) (fun w' _ => by kernel_rfl) ?_
          simp only [Act.put, List.setIfInBounds_toArray, List.set_cons_succ, List.set_cons_zero]
          refine gq_val (by kernel_rfl) (some 75) rfl (.bool true) (fun w' _ => by kernel_rfl) ?_
          simp only [Act.put, List.setIfInBounds_toArray, List.set_cons_succ, List.set_cons_zero]
          refine gq_call (by kernel_rfl) (some 76) rfl 7 #[] (.bool true) (fun w' _ => by kernel_rfl) (fun w' hC => CK w' hC) ?_
          simp only [Act.put, List.setIfInBounds_toArray, List.set_cons_succ, List.set_cons_zero]
          refine gq_val (by kernel_rfl) (some 77) rfl (.bool true) (fun w' _ => by kernel_rfl) ?_
          simp only [Act.put, List.setIfInBounds_toArray, List.set_cons_succ, List.set_cons_zero]
          refine gq_val (by kernel_rfl) (some 8) rfl (.bool true) (fun w' _ => by kernel_rfl) ?_
          simp only [Act.put, List.setIfInBounds_toArray, List.set_cons_succ, List.set_cons_zero]
          refine wpQuiet_nil ?_
          intro w' hC
          have HW := Lib.hid hC.2.2.2.2
          clear hC hK
          go_wp2_with fail
          go_ret
          exact ⟨rfl, HW.out⟩
        · rw [hp] at CP
          clear hAn hz htr hrC hn hAn2 hp CQ
          go_upto_region 5 with fail
          have hK := HK.out
          clear HK
          apply wp_region_lit
          refine gw_load (by kernel_rfl) (some 27) rfl 25 (.tmp 4) rfl ⟨g0, 0, none⟩ (.agg (w8s A)) (by kernel_rfl) (load_key hK.1 HA.out) ?_
          simp only [Act.put, List.setIfInBounds_toArray, List.set_cons_succ, List.set_cons_zero]
          refine gw_load (by kernel_rfl) (some 28) rfl 25 (.tmp 5) rfl ⟨g0 + 1, 0, none⟩ (.agg (w8s D)) (by kernel_rfl) (load_key hK.2.1 HB.out) ?_
          simp only [Act.put, List.setIfInBounds_toArray, List.set_cons_succ, List.set_cons_zero]
          refine gw_call (by kernel_rfl) (some 29) rfl 10 #[.agg (w8s A), .agg (w8s D)] (.int .i64 (-1)) (K3 w g0 A D C) (by kernel_rfl) (CAB _ hK) (fun V10 hK' => ?_)
          clear hK
          have hK := hK'
          clear hK'
          simp only [Act.put, List.setIfInBounds_toArray, List.set_cons_succ, List.set_cons_zero]
          refine gw_val (by kernel_rfl) (some 10) rfl (.int .i64 (-1)) (by kernel_rfl) ?_
          simp only [Act.put, List.setIfInBounds_toArray, List.set_cons_succ, List.set_cons_zero]
          apply wpList_nil
          go_upto_region 6 with fail
          apply wp_region_lit
          refine gw_val (by kernel_rfl) (some 30) rfl (.int .i64 (-1)) (by kernel_rfl) ?_
          simp only [Act.put, List.setIfInBounds_toArray, List.set_cons_succ, List.set_cons_zero]
          refine gw_load (by kernel_rfl) (some 31) rfl 25 (.tmp 4) rfl ⟨g0, 0, none⟩ (.agg (w8s A)) (by kernel_rfl) (load_key hK.1 HA.out) ?_
          simp only [Act.put, List.setIfInBounds_toArray, List.set_cons_succ, List.set_cons_zero]
          refine gw_load (by kernel_rfl) (some 32) rfl 25 (.tmp 5) rfl ⟨g0 + 1, 0, none⟩ (.agg (w8s D)) (by kernel_rfl) (load_key hK.2.1 HB.out) ?_
          simp only [Act.put, List.setIfInBounds_toArray, List.set_cons_succ, List.set_cons_zero]
          refine gw_call (by kernel_rfl) (some 33) rfl 11 #[.agg (w8s A), .agg (w8s D)] (.int .i64 (-1)) (K3 w g0 A D C) (by kernel_rfl) (CR _ hK) (fun V11 hK' => ?_)
          clear hK
          have hK := hK'
          clear hK'
          simp only [Act.put, List.setIfInBounds_toArray, List.set_cons_succ, List.set_cons_zero]
          refine gw_val (by kernel_rfl) (some 34) rfl (.bool false) (by kernel_rfl) ?_
          simp only [Act.put, List.setIfInBounds_toArray, List.set_cons_succ, List.set_cons_zero]
          refine gw_val (by kernel_rfl) (some 35) rfl (.bool false) (by kernel_rfl) ?_
          simp only [Act.put, List.setIfInBounds_toArray, List.set_cons_succ, List.set_cons_zero]
          refine gw_load (by kernel_rfl) (some 36) rfl 25 (.tmp 5) rfl ⟨g0 + 1, 0, none⟩ (.agg (w8s D)) (by kernel_rfl) (load_key hK.2.1 HB.out) ?_
          simp only [Act.put, List.setIfInBounds_toArray, List.set_cons_succ, List.set_cons_zero]
          refine gw_load (by kernel_rfl) (some 37) rfl 25 (.tmp 4) rfl ⟨g0, 0, none⟩ (.agg (w8s A)) (by kernel_rfl) (load_key hK.1 HA.out) ?_
          simp only [Act.put, List.setIfInBounds_toArray, List.set_cons_succ, List.set_cons_zero]
          refine gw_call (by kernel_rfl) (some 38) rfl 10 #[.agg (w8s D), .agg (w8s A)] (.int .i64 1) (K3 w g0 A D C) (by kernel_rfl) (CB _ hK) (fun V12 hK' => ?_)
          clear hK
          have hK := hK'
          clear hK'
          simp only [Act.put, List.setIfInBounds_toArray, List.set_cons_succ, List.set_cons_zero]
          refine gw_val (by kernel_rfl) (some 39) rfl (.int .i64 (-1)) (by kernel_rfl) ?_
          simp only [Act.put, List.setIfInBounds_toArray, List.set_cons_succ, List.set_cons_zero]
          refine gw_val (by kernel_rfl) (some 40) rfl (.int .i64 1) (by kernel_rfl) ?_
          simp only [Act.put, List.setIfInBounds_toArray, List.set_cons_succ, List.set_cons_zero]
          refine gw_val (by kernel_rfl) (some 41) rfl (.bool false) (by kernel_rfl) ?_
          simp only [Act.put, List.setIfInBounds_toArray, List.set_cons_succ, List.set_cons_zero]
          refine gw_val (by kernel_rfl) (some 42) rfl (.bool false) (by kernel_rfl) ?_
          simp only [Act.put, List.setIfInBounds_toArray, List.set_cons_succ, List.set_cons_zero]
          refine gw_val (by kernel_rfl) (some 43) rfl (.bool false) (by kernel_rfl) ?_
          simp only [Act.put, List.setIfInBounds_toArray, List.set_cons_succ, List.set_cons_zero]
          refine gw_val (by kernel_rfl) (some 44) rfl (.int .i64 (-1)) (by kernel_rfl) ?_
          simp only [Act.put, List.setIfInBounds_toArray, List.set_cons_succ, List.set_cons_zero]
          refine gw_val (by kernel_rfl) (some 45) rfl (.bool false) (by kernel_rfl) ?_
          simp only [Act.put, List.setIfInBounds_toArray, List.set_cons_succ, List.set_cons_zero]
          refine gw_load (by kernel_rfl) (some 46) rfl 25 (.tmp 4) rfl ⟨g0, 0, none⟩ (.agg (w8s A)) (by kernel_rfl) (load_key hK.1 HA.out) ?_
          simp only [Act.put, List.setIfInBounds_toArray, List.set_cons_succ, List.set_cons_zero]
          refine gw_load (by kernel_rfl) (some 47) rfl 25 (.tmp 5) rfl ⟨g0 + 1, 0, none⟩ (.agg (w8s D)) (by kernel_rfl) (load_key hK.2.1 HB.out) ?_
          simp only [Act.put, List.setIfInBounds_toArray, List.set_cons_succ, List.set_cons_zero]
          refine gw_val (by kernel_rfl) (some 48) rfl (.bool (A == D)) (eq_key rfl A D HA.out HB.out (by kernel_rfl) (by kernel_rfl) _) ?_
          rw [HE.out]
          simp only [Act.put, List.setIfInBounds_toArray, List.set_cons_succ, List.set_cons_zero]
          refine gw_val (by kernel_rfl) (some 49) rfl (.bool false) (by kernel_rfl) ?_
          simp only [Act.put, List.setIfInBounds_toArray, List.set_cons_succ, List.set_cons_zero]
          refine gw_val (by kernel_rfl) (some 50) rfl (.bool false) (by kernel_rfl) ?_
          simp only [Act.put, List.setIfInBounds_toArray, List.set_cons_succ, List.set_cons_zero]
          refine gw_val (by kernel_rfl) (some 51) rfl (.bool false) (by kernel_rfl) ?_
          simp only [Act.put, List.setIfInBounds_toArray, List.set_cons_succ, List.set_cons_zero]
          refine gw_val (by kernel_rfl) (some 52) rfl (.int .i64 (-1)) (by kernel_rfl) ?_
          simp only [Act.put, List.setIfInBounds_toArray, List.set_cons_succ, List.set_cons_zero]
          refine gw_val (by kernel_rfl) (some 53) rfl (.bool true) (by kernel_rfl) ?_
          simp only [Act.put, List.setIfInBounds_toArray, List.set_cons_succ, List.set_cons_zero]
          refine gw_val (by kernel_rfl) (some 54) rfl (.bool true) (by kernel_rfl) ?_
          simp only [Act.put, List.setIfInBounds_toArray, List.set_cons_succ, List.set_cons_zero]
          refine gw_load (by kernel_rfl) (some 55) rfl 25 (.tmp 5) rfl ⟨g0 + 1, 0, none⟩ (.agg (w8s D)) (by kernel_rfl) (load_key hK.2.1 HB.out) ?_
          simp only [Act.put, List.setIfInBounds_toArray, List.set_cons_succ, List.set_cons_zero]
          refine gw_load (by kernel_rfl) (some 56) rfl 25 (.tmp 6) rfl ⟨g0 + 2, 0, none⟩ (.agg (w8s C)) (by kernel_rfl) (load_key hK.2.2.1 HC.out) ?_
          simp only [Act.put, List.setIfInBounds_toArray, List.set_cons_succ, List.set_cons_zero]
          refine gw_call (by kernel_rfl) (some 57) rfl 10 #[.agg (w8s D), .agg (w8s C)] (.int .i64 1) (K3 w g0 A D C) (by kernel_rfl) (CP _ hK) (fun V13 hK' => ?_)
          clear hK
          have hK := hK'
          clear hK'
          simp only [Act.put, List.setIfInBounds_toArray, List.set_cons_succ, List.set_cons_zero]
          refine gw_val (by kernel_rfl) (some 58) rfl (.bool false) (by kernel_rfl) ?_
          simp only [Act.put, List.setIfInBounds_toArray, List.set_cons_succ, List.set_cons_zero]
          refine gw_val (by kernel_rfl) (some 59) rfl (.bool false) (by kernel_rfl) ?_
          simp only [Act.put, List.setIfInBounds_toArray, List.set_cons_succ, List.set_cons_zero]
          refine gw_val (by kernel_rfl) (some 60) rfl (.bool false) (by kernel_rfl) ?_
          simp only [Act.put, List.setIfInBounds_toArray, List.set_cons_succ, List.set_cons_zero]
          refine gw_not (by kernel_rfl) (some 61) rfl ?_
          simp only [Act.put, List.setIfInBounds_toArray, List.set_cons_succ, List.set_cons_zero]
          refine gw_not (by kernel_rfl) (some 62) rfl ?_
          simp only [Act.put, List.setIfInBounds_toArray, List.set_cons_succ, List.set_cons_zero]
          refine gw_not (by kernel_rfl) (some 63) rfl ?_
          simp only [Act.put, List.setIfInBounds_toArray, List.set_cons_succ, List.set_cons_zero]
          refine gw_not (by kernel_rfl) (some 64) rfl ?_
          simp only [Act.put, List.setIfInBounds_toArray, List.set_cons_succ, List.set_cons_zero]
          refine gw_val (by kernel_rfl) (some 65) rfl (.bool false) (by kernel_rfl) ?_
          simp only [Act.put, List.setIfInBounds_toArray, List.set_cons_succ, List.set_cons_zero]
          refine gw_val (by kernel_rfl) (some 66) rfl (.bool false) (by kernel_rfl) ?_
          simp only [Act.put, List.setIfInBounds_toArray, List.set_cons_succ, List.set_cons_zero]
          apply wpList_nil
          go_upto_region 8 with fail
          refine wp_region_class (C := K3 w g0 A D C) (by kernel_rfl) (by kernel_rfl) hK.drew ?_
          refine gq_val (by kernel_rfl) (some 67) rfl (.int .i64 (-1)) (fun w' _ => by kernel_rfl) ?_
          simp only [Act.put, List.setIfInBounds_toArray, List.set_cons_succ, List.set_cons_zero]
          refine gq_val (by kernel_rfl) (some 68) rfl (.bool true) (fun w' _ => by kernel_rfl) ?_
          simp only [Act.put, List.setIfInBounds_toArray, List.set_cons_succ, List.set_cons_zero]
          refine gq_load (by kernel_rfl) (some 69) rfl 25 (.tmp 4) rfl ⟨g0, 0, none⟩ (.agg (w8s A)) (by kernel_rfl) (fun w' hC => load_key hC.1 HA.out) ?_
          simp only [Act.put, List.setIfInBounds_toArray, List.set_cons_succ, List.set_cons_zero]
          refine gq_call (by kernel_rfl) (some 70) rfl 12 #[.agg (w8s A)] (.string (strOfNums (hexL A))) (fun w' _ => by kernel_rfl) (fun w' hC => CFA w' hC) ?_
          simp only [Act.put, List.setIfInBounds_toArray, List.set_cons_succ, List.set_cons_zero]
          refine gq_load (by kernel_rfl) (some 71) rfl 25 (.tmp 5) rfl ⟨g0 + 1, 0, none⟩ (.agg (w8s D)) (by kernel_rfl) (fun w' hC => load_key hC.2.1 HB.out) ?_
          simp only [Act.put, List.setIfInBounds_toArray, List.set_cons_succ, List.set_cons_zero]
          refine gq_call (by kernel_rfl) (some 72) rfl 12 #[.agg (w8s D)] (.string (strOfNums (hexL D))) (fun w' _ => by kernel_rfl) (fun w' hC => CFB w' hC) ?_
          simp only [Act.put, List.setIfInBounds_toArray, List.set_cons_succ, List.set_cons_zero]
          refine gq_val (by kernel_rfl) (some 73) rfl (.bool (decide (cmpL A D < 0))) (fun w' _ => less_hex rfl A D (HA.out.trans HB.out.symm) HA8.out HB8.out (by kernel_rfl) (by kernel_rfl) w') ?_
          simp only [Act.put, List.setIfInBounds_toArray, List.set_cons_succ, List.set_cons_zero]
          rw [HD.out]
          refine gq_val (by kernel_rfl) (some 74) rfl (.bool true) (fun w' _ => by kernel_rfl) ?_
          simp only [Act.put, List.setIfInBounds_toArray, List.set_cons_succ, List.set_cons_zero]
          refine gq_val (by kernel_rfl) (some 75) rfl (.bool true) (fun w' _ => by kernel_rfl) ?_
          simp only [Act.put, List.setIfInBounds_toArray, List.set_cons_succ, List.set_cons_zero]
          refine gq_call (by kernel_rfl) (some 76) rfl 7 #[] (.bool true) (fun w' _ => by kernel_rfl) (fun w' hC => CK w' hC) ?_
          simp only [Act.put, List.setIfInBounds_toArray, List.set_cons_succ, List.set_cons_zero]
          refine gq_val (by kernel_rfl) (some 77) rfl (.bool true) (fun w' _ => by kernel_rfl) ?_
          simp only [Act.put, List.setIfInBounds_toArray, List.set_cons_succ, List.set_cons_zero]
          refine gq_val (by kernel_rfl) (some 8) rfl (.bool true) (fun w' _ => by kernel_rfl) ?_
          simp only [Act.put, List.setIfInBounds_toArray, List.set_cons_succ, List.set_cons_zero]
          refine wpQuiet_nil ?_
          intro w' hC
          have HW := Lib.hid hC.2.2.2.2
          clear hC hK
          go_wp2_with fail
          go_ret
          exact ⟨rfl, HW.out⟩
      · have HE : Hid ((A == D) = true) := Lib.hid (by rw [hz.1 hn]; exact beq_self_eq_true _)
        have HD : Hid (decide (cmpL A D < 0) = false) := Lib.hid (decide_eq_false (by omega))
        have hAn2 : cmpL D A = 0 := by omega
        rw [hn] at CAB CR
        rw [hAn2] at CB
        clear hAn hz htr hrC hn hAn2 CP CQ
        go_upto_region 5 with fail
        have hK := HK.out
        clear HK
        apply wp_region_lit
        refine gw_load (by kernel_rfl) (some 27) rfl 25 (.tmp 4) rfl ⟨g0, 0, none⟩ (.agg (w8s A)) (by kernel_rfl) (load_key hK.1 HA.out) ?_
        simp only [Act.put, List.setIfInBounds_toArray, List.set_cons_succ, List.set_cons_zero]
        refine gw_load (by kernel_rfl) (some 28) rfl 25 (.tmp 5) rfl ⟨g0 + 1, 0, none⟩ (.agg (w8s D)) (by kernel_rfl) (load_key hK.2.1 HB.out) ?_
        simp only [Act.put, List.setIfInBounds_toArray, List.set_cons_succ, List.set_cons_zero]
        refine gw_call (by kernel_rfl) (some 29) rfl 10 #[.agg (w8s A), .agg (w8s D)] (.int .i64 0) (K3 w g0 A D C) (by kernel_rfl) (CAB _ hK) (fun V14 hK' => ?_)
        clear hK
        have hK := hK'
        clear hK'
        simp only [Act.put, List.setIfInBounds_toArray, List.set_cons_succ, List.set_cons_zero]
        refine gw_val (by kernel_rfl) (some 10) rfl (.int .i64 0) (by kernel_rfl) ?_
        simp only [Act.put, List.setIfInBounds_toArray, List.set_cons_succ, List.set_cons_zero]
        apply wpList_nil
        go_upto_region 6 with fail
        apply wp_region_lit
        refine gw_val (by kernel_rfl) (some 30) rfl (.int .i64 0) (by kernel_rfl) ?_
        simp only [Act.put, List.setIfInBounds_toArray, List.set_cons_succ, List.set_cons_zero]
        refine gw_load (by kernel_rfl) (some 31) rfl 25 (.tmp 4) rfl ⟨g0, 0, none⟩ (.agg (w8s A)) (by kernel_rfl) (load_key hK.1 HA.out) ?_
        simp only [Act.put, List.setIfInBounds_toArray, List.set_cons_succ, List.set_cons_zero]
        refine gw_load (by kernel_rfl) (some 32) rfl 25 (.tmp 5) rfl ⟨g0 + 1, 0, none⟩ (.agg (w8s D)) (by kernel_rfl) (load_key hK.2.1 HB.out) ?_
        simp only [Act.put, List.setIfInBounds_toArray, List.set_cons_succ, List.set_cons_zero]
        refine gw_call (by kernel_rfl) (some 33) rfl 11 #[.agg (w8s A), .agg (w8s D)] (.int .i64 0) (K3 w g0 A D C) (by kernel_rfl) (CR _ hK) (fun V15 hK' => ?_)
        clear hK
        have hK := hK'
        clear hK'
        simp only [Act.put, List.setIfInBounds_toArray, List.set_cons_succ, List.set_cons_zero]
        refine gw_val (by kernel_rfl) (some 34) rfl (.bool false) (by kernel_rfl) ?_
        simp only [Act.put, List.setIfInBounds_toArray, List.set_cons_succ, List.set_cons_zero]
        refine gw_val (by kernel_rfl) (some 35) rfl (.bool false) (by kernel_rfl) ?_
        simp only [Act.put, List.setIfInBounds_toArray, List.set_cons_succ, List.set_cons_zero]
        refine gw_load (by kernel_rfl) (some 36) rfl 25 (.tmp 5) rfl ⟨g0 + 1, 0, none⟩ (.agg (w8s D)) (by kernel_rfl) (load_key hK.2.1 HB.out) ?_
        simp only [Act.put, List.setIfInBounds_toArray, List.set_cons_succ, List.set_cons_zero]
        refine gw_load (by kernel_rfl) (some 37) rfl 25 (.tmp 4) rfl ⟨g0, 0, none⟩ (.agg (w8s A)) (by kernel_rfl) (load_key hK.1 HA.out) ?_
        simp only [Act.put, List.setIfInBounds_toArray, List.set_cons_succ, List.set_cons_zero]
        refine gw_call (by kernel_rfl) (some 38) rfl 10 #[.agg (w8s D), .agg (w8s A)] (.int .i64 0) (K3 w g0 A D C) (by kernel_rfl) (CB _ hK) (fun V16 hK' => ?_)
        clear hK
        have hK := hK'
        clear hK'
        simp only [Act.put, List.setIfInBounds_toArray, List.set_cons_succ, List.set_cons_zero]
        refine gw_val (by kernel_rfl) (some 39) rfl (.int .i64 0) (by kernel_rfl) ?_
        simp only [Act.put, List.setIfInBounds_toArray, List.set_cons_succ, List.set_cons_zero]
        refine gw_val (by kernel_rfl) (some 40) rfl (.int .i64 0) (by kernel_rfl) ?_
        simp only [Act.put, List.setIfInBounds_toArray, List.set_cons_succ, List.set_cons_zero]
        refine gw_val (by kernel_rfl) (some 41) rfl (.bool false) (by kernel_rfl) ?_
        simp only [Act.put, List.setIfInBounds_toArray, List.set_cons_succ, List.set_cons_zero]
        refine gw_val (by kernel_rfl) (some 42) rfl (.bool false) (by kernel_rfl) ?_
        simp only [Act.put, List.setIfInBounds_toArray, List.set_cons_succ, List.set_cons_zero]
        refine gw_val (by kernel_rfl) (some 43) rfl (.bool false) (by kernel_rfl) ?_
        simp only [Act.put, List.setIfInBounds_toArray, List.set_cons_succ, List.set_cons_zero]
        refine gw_val (by kernel_rfl) (some 44) rfl (.int .i64 0) (by kernel_rfl) ?_
        simp only [Act.put, List.setIfInBounds_toArray, List.set_cons_succ, List.set_cons_zero]
        refine gw_val (by kernel_rfl) (some 45) rfl (.bool true) (by kernel_rfl) ?_
        simp only [Act.put, List.setIfInBounds_toArray, List.set_cons_succ, List.set_cons_zero]
        refine gw_load (by kernel_rfl) (some 46) rfl 25 (.tmp 4) rfl ⟨g0, 0, none⟩ (.agg (w8s A)) (by kernel_rfl) (load_key hK.1 HA.out) ?_
        simp only [Act.put, List.setIfInBounds_toArray, List.set_cons_succ, List.set_cons_zero]
        refine gw_load (by kernel_rfl) (some 47) rfl 25 (.tmp 5) rfl ⟨g0 + 1, 0, none⟩ (.agg (w8s D)) (by kernel_rfl) (load_key hK.2.1 HB.out) ?_
        simp only [Act.put, List.setIfInBounds_toArray, List.set_cons_succ, List.set_cons_zero]
        refine gw_val (by kernel_rfl) (some 48) rfl (.bool (A == D)) (eq_key rfl A D HA.out HB.out (by kernel_rfl) (by kernel_rfl) _) ?_
        rw [HE.out]
        simp only [Act.put, List.setIfInBounds_toArray, List.set_cons_succ, List.set_cons_zero]
        refine gw_val (by kernel_rfl) (some 49) rfl (.bool false) (by kernel_rfl) ?_
        simp only [Act.put, List.setIfInBounds_toArray, List.set_cons_succ, List.set_cons_zero]
        refine gw_val (by kernel_rfl) (some 50) rfl (.bool false) (by kernel_rfl) ?_
        simp only [Act.put, List.setIfInBounds_toArray, List.set_cons_succ, List.set_cons_zero]
        refine gw_val (by kernel_rfl) (some 51) rfl (.bool false) (by kernel_rfl) ?_
        simp only [Act.put, List.setIfInBounds_toArray, List.set_cons_succ, List.set_cons_zero]
        refine gw_val (by kernel_rfl) (some 52) rfl (.int .i64 0) (by kernel_rfl) ?_
        simp only [Act.put, List.setIfInBounds_toArray, List.set_cons_succ, List.set_cons_zero]
        refine gw_val (by kernel_rfl) (some 53) rfl (.bool false) (by kernel_rfl) ?_
        simp only [Act.put, List.setIfInBounds_toArray, List.set_cons_succ, List.set_cons_zero]
        refine gw_val (by kernel_rfl) (some 54) rfl (.bool false) (by kernel_rfl) ?_
        simp only [Act.put, List.setIfInBounds_toArray, List.set_cons_succ, List.set_cons_zero]
        refine gw_not (by kernel_rfl) (some 55) rfl ?_
        simp only [Act.put, List.setIfInBounds_toArray, List.set_cons_succ, List.set_cons_zero]
        refine gw_not (by kernel_rfl) (some 56) rfl ?_
        simp only [Act.put, List.setIfInBounds_toArray, List.set_cons_succ, List.set_cons_zero]
        refine gw_not (by kernel_rfl) (some 57) rfl ?_
        simp only [Act.put, List.setIfInBounds_toArray, List.set_cons_succ, List.set_cons_zero]
        refine gw_not (by kernel_rfl) (some 58) rfl ?_
        simp only [Act.put, List.setIfInBounds_toArray, List.set_cons_succ, List.set_cons_zero]
        refine gw_val (by kernel_rfl) (some 59) rfl (.bool false) (by kernel_rfl) ?_
        simp only [Act.put, List.setIfInBounds_toArray, List.set_cons_succ, List.set_cons_zero]
        refine gw_val (by kernel_rfl) (some 60) rfl (.bool false) (by kernel_rfl) ?_
        simp only [Act.put, List.setIfInBounds_toArray, List.set_cons_succ, List.set_cons_zero]
        refine gw_not (by kernel_rfl) (some 61) rfl ?_
        simp only [Act.put, List.setIfInBounds_toArray, List.set_cons_succ, List.set_cons_zero]
        refine gw_not (by kernel_rfl) (some 62) rfl ?_
        simp only [Act.put, List.setIfInBounds_toArray, List.set_cons_succ, List.set_cons_zero]
        refine gw_not (by kernel_rfl) (some 63) rfl ?_
        simp only [Act.put, List.setIfInBounds_toArray, List.set_cons_succ, List.set_cons_zero]
        refine gw_not (by kernel_rfl) (some 64) rfl ?_
        simp only [Act.put, List.setIfInBounds_toArray, List.set_cons_succ, List.set_cons_zero]
        refine gw_val (by kernel_rfl) (some 65) rfl (.bool false) (by kernel_rfl) ?_
        simp only [Act.put, List.setIfInBounds_toArray, List.set_cons_succ, List.set_cons_zero]
        refine gw_val (by kernel_rfl) (some 66) rfl (.bool false) (by kernel_rfl) ?_
        simp only [Act.put, List.setIfInBounds_toArray, List.set_cons_succ, List.set_cons_zero]
        apply wpList_nil
        go_upto_region 8 with fail
        refine wp_region_class (C := K3 w g0 A D C) (by kernel_rfl) (by kernel_rfl) hK.drew ?_
        refine gq_val (by kernel_rfl) (some 67) rfl (.int .i64 0) (fun w' _ => by kernel_rfl) ?_
        simp only [Act.put, List.setIfInBounds_toArray, List.set_cons_succ, List.set_cons_zero]
        refine gq_val (by kernel_rfl) (some 68) rfl (.bool false) (fun w' _ => by kernel_rfl) ?_
        simp only [Act.put, List.setIfInBounds_toArray, List.set_cons_succ, List.set_cons_zero]
        refine gq_load (by kernel_rfl) (some 69) rfl 25 (.tmp 4) rfl ⟨g0, 0, none⟩ (.agg (w8s A)) (by kernel_rfl) (fun w' hC => load_key hC.1 HA.out) ?_
        simp only [Act.put, List.setIfInBounds_toArray, List.set_cons_succ, List.set_cons_zero]
        refine gq_call (by kernel_rfl) (some 70) rfl 12 #[.agg (w8s A)] (.string (strOfNums (hexL A))) (fun w' _ => by kernel_rfl) (fun w' hC => CFA w' hC) ?_
        simp only [Act.put, List.setIfInBounds_toArray, List.set_cons_succ, List.set_cons_zero]
        refine gq_load (by kernel_rfl) (some 71) rfl 25 (.tmp 5) rfl ⟨g0 + 1, 0, none⟩ (.agg (w8s D)) (by kernel_rfl) (fun w' hC => load_key hC.2.1 HB.out) ?_
        simp only [Act.put, List.setIfInBounds_toArray, List.set_cons_succ, List.set_cons_zero]
        refine gq_call (by kernel_rfl) (some 72) rfl 12 #[.agg (w8s D)] (.string (strOfNums (hexL D))) (fun w' _ => by kernel_rfl) (fun w' hC => CFB w' hC) ?_
        simp only [Act.put, List.setIfInBounds_toArray, List.set_cons_succ, List.set_cons_zero]
        refine gq_val (by kernel_rfl) (some 73) rfl (.bool (decide (cmpL A D < 0))) (fun w' _ => less_hex rfl A D (HA.out.trans HB.out.symm) HA8.out HB8.out (by kernel_rfl) (by kernel_rfl) w') ?_
        simp only [Act.put, List.setIfInBounds_toArray, List.set_cons_succ, List.set_cons_zero]
        rw [HD.out]
        refine gq_val (by kernel_rfl) (some 74) rfl (.bool true) (fun w' _ => by kernel_rfl) ?_
        simp only [Act.put, List.setIfInBounds_toArray, List.set_cons_succ, List.set_cons_zero]
        refine gq_val (by kernel_rfl) (some 75) rfl (.bool true) (fun w' _ => by kernel_rfl) ?_
        simp only [Act.put, List.setIfInBounds_toArray, List.set_cons_succ, List.set_cons_zero]
        refine gq_call (by kernel_rfl) (some 76) rfl 7 #[] (.bool true) (fun w' _ => by kernel_rfl) (fun w' hC => CK w' hC) ?_
        simp only [Act.put, List.setIfInBounds_toArray, List.set_cons_succ, List.set_cons_zero]
        refine gq_val (by kernel_rfl) (some 77) rfl (.bool true) (fun w' _ => by kernel_rfl) ?_
        simp only [Act.put, List.setIfInBounds_toArray, List.set_cons_succ, List.set_cons_zero]
        refine gq_val (by kernel_rfl) (some 8) rfl (.bool true) (fun w' _ => by kernel_rfl) ?_
        simp only [Act.put, List.setIfInBounds_toArray, List.set_cons_succ, List.set_cons_zero]
        refine wpQuiet_nil ?_
        intro w' hC
        have HW := Lib.hid hC.2.2.2.2
        clear hC hK
        go_wp2_with fail
        go_ret
        exact ⟨rfl, HW.out⟩
      · have HE : Hid ((A == D) = false) := Lib.hid (by rw [beq_eq_false_iff_ne]; intro h; have := hz.2 h; omega)
        have HD : Hid (decide (cmpL A D < 0) = false) := Lib.hid (decide_eq_false (by omega))
        have hAn2 : cmpL D A = -1 := by omega
        rw [hn] at CAB CR
        rw [hAn2] at CB
        clear hAn hz htr hrC hn hAn2 CP CQ
        go_upto_region 5 with fail
        have hK := HK.out
        clear HK
        apply wp_region_lit
        refine gw_load (by kernel_rfl) (some 27) rfl 25 (.tmp 4) rfl ⟨g0, 0, none⟩ (.agg (w8s A)) (by kernel_rfl) (load_key hK.1 HA.out) ?_
        simp only [Act.put, List.setIfInBounds_toArray, List.set_cons_succ, List.set_cons_zero]
        refine gw_load (by kernel_rfl) (some 28) rfl 25 (.tmp 5) rfl ⟨g0 + 1, 0, none⟩ (.agg (w8s D)) (by kernel_rfl) (load_key hK.2.1 HB.out) ?_
        simp only [Act.put, List.setIfInBounds_toArray, List.set_cons_succ, List.set_cons_zero]
        refine gw_call (by kernel_rfl) (some 29) rfl 10 #[.agg (w8s A), .agg (w8s D)] (.int .i64 1) (K3 w g0 A D C) (by kernel_rfl) (CAB _ hK) (fun V17 hK' => ?_)
        clear hK
        have hK := hK'
        clear hK'
        simp only [Act.put, List.setIfInBounds_toArray, List.set_cons_succ, List.set_cons_zero]
        refine gw_val (by kernel_rfl) (some 10) rfl (.int .i64 1) (by kernel_rfl) ?_
        simp only [Act.put, List.setIfInBounds_toArray, List.set_cons_succ, List.set_cons_zero]
        apply wpList_nil
        go_upto_region 6 with fail
        apply wp_region_lit
        refine gw_val (by kernel_rfl) (some 30) rfl (.int .i64 1) (by kernel_rfl) ?_
        simp only [Act.put, List.setIfInBounds_toArray, List.set_cons_succ, List.set_cons_zero]
        refine gw_load (by kernel_rfl) (some 31) rfl 25 (.tmp 4) rfl ⟨g0, 0, none⟩ (.agg (w8s A)) (by kernel_rfl) (load_key hK.1 HA.out) ?_
        simp only [Act.put, List.setIfInBounds_toArray, List.set_cons_succ, List.set_cons_zero]
        refine gw_load (by kernel_rfl) (some 32) rfl 25 (.tmp 5) rfl ⟨g0 + 1, 0, none⟩ (.agg (w8s D)) (by kernel_rfl) (load_key hK.2.1 HB.out) ?_
        simp only [Act.put, List.setIfInBounds_toArray, List.set_cons_succ, List.set_cons_zero]
        refine gw_call (by kernel_rfl) (some 33) rfl 11 #[.agg (w8s A), .agg (w8s D)] (.int .i64 1) (K3 w g0 A D C) (by kernel_rfl) (CR _ hK) (fun V18 hK' => ?_)
        clear hK
        have hK := hK'
        clear hK'
        simp only [Act.put, List.setIfInBounds_toArray, List.set_cons_succ, List.set_cons_zero]
        refine gw_val (by kernel_rfl) (some 34) rfl (.bool false) (by kernel_rfl) ?_
        simp only [Act.put, List.setIfInBounds_toArray, List.set_cons_succ, List.set_cons_zero]
        refine gw_val (by kernel_rfl) (some 35) rfl (.bool false) (by kernel_rfl) ?_
        simp only [Act.put, List.setIfInBounds_toArray, List.set_cons_succ, List.set_cons_zero]
        refine gw_load (by kernel_rfl) (some 36) rfl 25 (.tmp 5) rfl ⟨g0 + 1, 0, none⟩ (.agg (w8s D)) (by kernel_rfl) (load_key hK.2.1 HB.out) ?_
        simp only [Act.put, List.setIfInBounds_toArray, List.set_cons_succ, List.set_cons_zero]
        refine gw_load (by kernel_rfl) (some 37) rfl 25 (.tmp 4) rfl ⟨g0, 0, none⟩ (.agg (w8s A)) (by kernel_rfl) (load_key hK.1 HA.out) ?_
        simp only [Act.put, List.setIfInBounds_toArray, List.set_cons_succ, List.set_cons_zero]
        refine gw_call (by kernel_rfl) (some 38) rfl 10 #[.agg (w8s D), .agg (w8s A)] (.int .i64 (-1)) (K3 w g0 A D C) (by kernel_rfl) (CB _ hK) (fun V19 hK' => ?_)
        clear hK
        have hK := hK'
        clear hK'
        simp only [Act.put, List.setIfInBounds_toArray, List.set_cons_succ, List.set_cons_zero]
        refine gw_val (by kernel_rfl) (some 39) rfl (.int .i64 1) (by kernel_rfl) ?_
        simp only [Act.put, List.setIfInBounds_toArray, List.set_cons_succ, List.set_cons_zero]
        refine gw_val (by kernel_rfl) (some 40) rfl (.int .i64 (-1)) (by kernel_rfl) ?_
        simp only [Act.put, List.setIfInBounds_toArray, List.set_cons_succ, List.set_cons_zero]
        refine gw_val (by kernel_rfl) (some 41) rfl (.bool false) (by kernel_rfl) ?_
        simp only [Act.put, List.setIfInBounds_toArray, List.set_cons_succ, List.set_cons_zero]
        refine gw_val (by kernel_rfl) (some 42) rfl (.bool false) (by kernel_rfl) ?_
        simp only [Act.put, List.setIfInBounds_toArray, List.set_cons_succ, List.set_cons_zero]
        refine gw_val (by kernel_rfl) (some 43) rfl (.bool false) (by kernel_rfl) ?_
        simp only [Act.put, List.setIfInBounds_toArray, List.set_cons_succ, List.set_cons_zero]
        refine gw_val (by kernel_rfl) (some 44) rfl (.int .i64 1) (by kernel_rfl) ?_
        simp only [Act.put, List.setIfInBounds_toArray, List.set_cons_succ, List.set_cons_zero]
        refine gw_val (by kernel_rfl) (some 45) rfl (.bool false) (by kernel_rfl) ?_
        simp only [Act.put, List.setIfInBounds_toArray, List.set_cons_succ, List.set_cons_zero]
        refine gw_load (by kernel_rfl) (some 46) rfl 25 (.tmp 4) rfl ⟨g0, 0, none⟩ (.agg (w8s A)) (by kernel_rfl) (load_key hK.1 HA.out) ?_
        simp only [Act.put, List.setIfInBounds_toArray, List.set_cons_succ, List.set_cons_zero]
        refine gw_load (by kernel_rfl) (some 47) rfl 25 (.tmp 5) rfl ⟨g0 + 1, 0, none⟩ (.agg (w8s D)) (by kernel_rfl) (load_key hK.2.1 HB.out) ?_
        simp only [Act.put, List.setIfInBounds_toArray, List.set_cons_succ, List.set_cons_zero]
        refine gw_val (by kernel_rfl) (some 48) rfl (.bool (A == D)) (eq_key rfl A D HA.out HB.out (by kernel_rfl) (by kernel_rfl) _) ?_
        rw [HE.out]
        simp only [Act.put, List.setIfInBounds_toArray, List.set_cons_succ, List.set_cons_zero]
        refine gw_val (by kernel_rfl) (some 49) rfl (.bool false) (by kernel_rfl) ?_
        simp only [Act.put, List.setIfInBounds_toArray, List.set_cons_succ, List.set_cons_zero]
        refine gw_val (by kernel_rfl) (some 50) rfl (.bool false) (by kernel_rfl) ?_
        simp only [Act.put, List.setIfInBounds_toArray, List.set_cons_succ, List.set_cons_zero]
        refine gw_val (by kernel_rfl) (some 51) rfl (.bool false) (by kernel_rfl) ?_
        simp only [Act.put, List.setIfInBounds_toArray, List.set_cons_succ, List.set_cons_zero]
        refine gw_val (by kernel_rfl) (some 52) rfl (.int .i64 1) (by kernel_rfl) ?_
        simp only [Act.put, List.setIfInBounds_toArray, List.set_cons_succ, List.set_cons_zero]
        refine gw_val (by kernel_rfl) (some 53) rfl (.bool false) (by kernel_rfl) ?_
        simp only [Act.put, List.setIfInBounds_toArray, List.set_cons_succ, List.set_cons_zero]
        refine gw_val (by kernel_rfl) (some 54) rfl (.bool false) (by kernel_rfl) ?_
        simp only [Act.put, List.setIfInBounds_toArray, List.set_cons_succ, List.set_cons_zero]
        refine gw_not (by kernel_rfl) (some 55) rfl ?_
        simp only [Act.put, List.setIfInBounds_toArray, List.set_cons_succ, List.set_cons_zero]
        refine gw_not (by kernel_rfl) (some 56) rfl ?_
        simp only [Act.put, List.setIfInBounds_toArray, List.set_cons_succ, List.set_cons_zero]
        refine gw_not (by kernel_rfl) (some 57) rfl ?_
        simp only [Act.put, List.setIfInBounds_toArray, List.set_cons_succ, List.set_cons_zero]
        refine gw_not (by kernel_rfl) (some 58) rfl ?_
        simp only [Act.put, List.setIfInBounds_toArray, List.set_cons_succ, List.set_cons_zero]
        refine gw_val (by kernel_rfl) (some 59) rfl (.bool false) (by kernel_rfl) ?_
        simp only [Act.put, List.setIfInBounds_toArray, List.set_cons_succ, List.set_cons_zero]
        refine gw_val (by kernel_rfl) (some 60) rfl (.bool false) (by kernel_rfl) ?_
        simp only [Act.put, List.setIfInBounds_toArray, List.set_cons_succ, List.set_cons_zero]
        refine gw_not (by kernel_rfl) (some 61) rfl ?_
        simp only [Act.put, List.setIfInBounds_toArray, List.set_cons_succ, List.set_cons_zero]
        refine gw_not (by kernel_rfl) (some 62) rfl ?_
        simp only [Act.put, List.setIfInBounds_toArray, List.set_cons_succ, List.set_cons_zero]
        refine gw_not (by kernel_rfl) (some 63) rfl ?_
        simp only [Act.put, List.setIfInBounds_toArray, List.set_cons_succ, List.set_cons_zero]
        refine gw_not (by kernel_rfl) (some 64) rfl ?_
        simp only [Act.put, List.setIfInBounds_toArray, List.set_cons_succ, List.set_cons_zero]
        refine gw_val (by kernel_rfl) (some 65) rfl (.bool false) (by kernel_rfl) ?_
        simp only [Act.put, List.setIfInBounds_toArray, List.set_cons_succ, List.set_cons_zero]
        refine gw_val (by kernel_rfl) (some 66) rfl (.bool false) (by kernel_rfl) ?_
        simp only [Act.put, List.setIfInBounds_toArray, List.set_cons_succ, List.set_cons_zero]
        apply wpList_nil
        go_upto_region 8 with fail
        refine wp_region_class (C := K3 w g0 A D C) (by kernel_rfl) (by kernel_rfl) hK.drew ?_
        refine gq_val (by kernel_rfl) (some 67) rfl (.int .i64 1) (fun w' _ => by kernel_rfl) ?_
        simp only [Act.put, List.setIfInBounds_toArray, List.set_cons_succ, List.set_cons_zero]
        refine gq_val (by kernel_rfl) (some 68) rfl (.bool false) (fun w' _ => by kernel_rfl) ?_
        simp only [Act.put, List.setIfInBounds_toArray, List.set_cons_succ, List.set_cons_zero]
        refine gq_load (by kernel_rfl) (some 69) rfl 25 (.tmp 4) rfl ⟨g0, 0, none⟩ (.agg (w8s A)) (by kernel_rfl) (fun w' hC => load_key hC.1 HA.out) ?_
        simp only [Act.put, List.setIfInBounds_toArray, List.set_cons_succ, List.set_cons_zero]
        refine gq_call (by kernel_rfl) (some 70) rfl 12 #[.agg (w8s A)] (.string (strOfNums (hexL A))) (fun w' _ => by kernel_rfl) (fun w' hC => CFA w' hC) ?_
        simp only [Act.put, List.setIfInBounds_toArray, List.set_cons_succ, List.set_cons_zero]
        refine gq_load (by kernel_rfl) (some 71) rfl 25 (.tmp 5) rfl ⟨g0 + 1, 0, none⟩ (.agg (w8s D)) (by kernel_rfl) (fun w' hC => load_key hC.2.1 HB.out) ?_
        simp only [Act.put, List.setIfInBounds_toArray, List.set_cons_succ, List.set_cons_zero]
        refine gq_call (by kernel_rfl) (some 72) rfl 12 #[.agg (w8s D)] (.string (strOfNums (hexL D))) (fun w' _ => by kernel_rfl) (fun w' hC => CFB w' hC) ?_
        simp only [Act.put, List.setIfInBounds_toArray, List.set_cons_succ, List.set_cons_zero]
        refine gq_val (by kernel_rfl) (some 73) rfl (.bool (decide (cmpL A D < 0))) (fun w' _ => less_hex rfl A D (HA.out.trans HB.out.symm) HA8.out HB8.out (by kernel_rfl) (by kernel_rfl) w') ?_
        simp only [Act.put, List.setIfInBounds_toArray, List.set_cons_succ, List.set_cons_zero]
        rw [HD.out]
        refine gq_val (by kernel_rfl) (some 74) rfl (.bool true) (fun w' _ => by kernel_rfl) ?_
        simp only [Act.put, List.setIfInBounds_toArray, List.set_cons_succ, List.set_cons_zero]
        refine gq_val (by kernel_rfl) (some 75) rfl (.bool true) (fun w' _ => by kernel_rfl) ?_
        simp only [Act.put, List.setIfInBounds_toArray, List.set_cons_succ, List.set_cons_zero]
        refine gq_call (by kernel_rfl) (some 76) rfl 7 #[] (.bool true) (fun w' _ => by kernel_rfl) (fun w' hC => CK w' hC) ?_
        simp only [Act.put, List.setIfInBounds_toArray, List.set_cons_succ, List.set_cons_zero]
        refine gq_val (by kernel_rfl) (some 77) rfl (.bool true) (fun w' _ => by kernel_rfl) ?_
        simp only [Act.put, List.setIfInBounds_toArray, List.set_cons_succ, List.set_cons_zero]
        refine gq_val (by kernel_rfl) (some 8) rfl (.bool true) (fun w' _ => by kernel_rfl) ?_
        simp only [Act.put, List.setIfInBounds_toArray, List.set_cons_succ, List.set_cons_zero]
        refine wpQuiet_nil ?_
        intro w' hC
        have HW := Lib.hid hC.2.2.2.2
        clear hC hK
        go_wp2_with fail
        go_ret
        exact ⟨rfl, HW.out⟩
end Go.Proofs.YtapojahoaglgaaaDoor
