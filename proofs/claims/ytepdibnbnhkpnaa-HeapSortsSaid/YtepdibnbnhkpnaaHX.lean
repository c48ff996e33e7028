/-
  The program's heap: two items are exchanged.
-/
import Derived.Test.YtepdibnbnhkpnaaHQ
import Derived.Test.YtepdibnbnhkpnaaHB
namespace Go.Proofs.Ytepdibnbnhkpnaa
open Go.RowKit
set_option linter.unusedSimpArgs false
set_option linter.unusedVariables false

theorem ita_sw1 {A : List It} {i j : Nat} (hi : i < A.length) (hj : j < A.length) : ita (swL A i j) i = ita A j := by
  rw [ita_sw A i j i hi hj]
  split
  · rename_i e; rw [e]
  · rw [if_pos rfl]
theorem ita_sw2 {A : List It} {i j : Nat} (hi : i < A.length) (hj : j < A.length) : ita (swL A i j) j = ita A i := by
  rw [ita_sw A i j j hi hj, if_pos rfl]
/-- Where the exchanged items stand. -/
def exF (A : List It) (f : Int → Option Int) (i j : Nat) : Int → Option Int := updF (updF f (ita A j).1 (some (i : Int))) (ita A i).1 (some (j : Int))
theorem Mh.ldb {w : World} {g b : Nat} {d : Hd} {f : Int → Option Int} (h : Mh w g d f) (hb : d.ka = some ⟨b, 0, none⟩) : (Instr.loadAt 35 (.pointer (some ⟨g, 0, none⟩))).run Try.prog w = .ok (.slice (some ⟨b, 0, none⟩) d.A.length d.kc) w := by
  rw [← hb]; exact h.ld0
/-- Three states of a world, by two stores. -/
structure XW (P0 P1 P2 : World → Prop) (b16 b23 b25 b27 : Bool) (V : World) : Prop where
  p0 : b25 = false → P0 V
  p1 : b25 = true → b27 = false → P1 V
  p2 : b27 = true → P2 V
  c1 : b25 = true → b16 = true ∧ b23 = true
  c2 : b27 = true → b25 = true
section
variable {P0 P1 P2 : World → Prop} {b16 b23 b25 b27 : Bool} {V : World}
theorem XW.start (h : P0 V) : XW P0 P1 P2 false false false false V := ⟨fun _ => h, fun h => (by cases h), fun h => (by cases h), fun h => (by cases h), fun h => (by cases h)⟩
theorem XW.any (h : XW P0 P1 P2 b16 b23 b25 b27 V) : P0 V ∨ P1 V ∨ P2 V := by
  cases b25 with
  | false => exact .inl (h.p0 rfl)
  | true =>
    cases b27 with
    | false => exact .inr (.inl (h.p1 rfl rfl))
    | true => exact .inr (.inr (h.p2 rfl))
theorem XW.m16 (h : XW P0 P1 P2 b16 b23 false b27 V) : XW P0 P1 P2 true b23 false b27 V := ⟨h.p0, fun h => (by cases h), h.p2, fun h => (by cases h), h.c2⟩
theorem XW.m23 (h : XW P0 P1 P2 b16 b23 false b27 V) : XW P0 P1 P2 b16 true false b27 V := ⟨h.p0, fun h => (by cases h), h.p2, fun h => (by cases h), h.c2⟩
end
/-- The two stores of an exchange. -/
theorem swap_run {Bd g b : Nat} {d : Hd} {f : Int → Option Int} {U : World} (h : Mh U g d f) (hB : ∀ k, Sh g d k → Bd ≤ k) (hb : d.ka = some ⟨b, 0, none⟩) {i j : Nat} (hi : i < d.A.length) (hj : j < d.A.length) : ∃ U1 U2,
    (Instr.storeAt 24 (.pointer (some ⟨b, i * 3, none⟩)) (.agg (itA (ita d.A j)))).run Try.prog U = .ok () U1 ∧
    (Instr.storeAt 24 (.pointer (some ⟨b, j * 3, none⟩)) (.agg (itA (ita d.A i)))).run Try.prog U1 = .ok () U2 ∧ Gh Bd g d U { d with A := swL d.A i j } f U2 := by
  have h1 := Gh.setA h hB hb i hi (ita d.A j)
  exact ⟨_, _, h.store hb hi _, h1.mem.store hb (by show j < (d.A.set i (ita d.A j)).length; rw [List.length_set]; exact hj) _, Gh.swap h hB hb i j hi hj⟩
set_option maxRecDepth 100000 in
set_option maxHeartbeats 4000000 in
theorem q_ex {Bd g : Nat} {d : Hd} {f : Int → Option Int} {w : World} (h : Mh w g d f) (hB : ∀ k, Sh g d k → Bd ≤ k) (hw : Bd ≤ w.heap.size) {i j : Nat} (hi : i < d.A.length) (hj : j < d.A.length) :
    Calls Try.prog 27 #[.pointer (some ⟨g, 0, none⟩), .int .i64 i, .int .i64 j] w fun e w' => e = .returned (.tuple #[]) ∧ Gh Bd g d w { d with A := swL d.A i j } (exF d.A f i j) w' := by
  obtain ⟨b, hb⟩ := h.addr (by omega)
  have H0 := Lib.hid (Gh.refl (Bd := Bd) h)
  have HS1 := Lib.hid (fun U (hU : Gh Bd g d w d f U) => (⟨_, hU.mem.store hb hi (ita d.A j), hU.trans (Gh.setA hU.mem (hU.base hB hw) hb i hi (ita d.A j))⟩ : ∃ U1, (Instr.storeAt 24 (.pointer (some ⟨b, i * 3, none⟩)) (.agg (itA (ita d.A j)))).run Try.prog U = .ok () U1 ∧ Gh Bd g d w { d with A := d.A.set i (ita d.A j) } f U1))
  have HS2 := Lib.hid (fun U (hU : Gh Bd g d w { d with A := d.A.set i (ita d.A j) } f U) => (⟨_, hU.mem.store hb (by show j < (d.A.set i (ita d.A j)).length; rw [List.length_set]; exact hj) (ita d.A i), hU.trans (Gh.setA hU.mem (hU.base hB hw) hb j (by show j < (d.A.set i (ita d.A j)).length; rw [List.length_set]; exact hj) (ita d.A i))⟩ : ∃ U1, (Instr.storeAt 24 (.pointer (some ⟨b, j * 3, none⟩)) (.agg (itA (ita d.A i)))).run Try.prog U = .ok () U1 ∧ Gh Bd g d w { d with A := swL d.A i j } f U1))
  have HLX := Lib.hid (fun U (hU : Gh Bd g d w d f U ∨ Gh Bd g d w { d with A := d.A.set i (ita d.A j) } f U ∨ Gh Bd g d w { d with A := swL d.A i j } f U) => (by
    rcases hU with hU | hU | hU
    · exact hU.mem.ldb hb
    · have := hU.mem.ldb hb
      rw [show ({ d with A := d.A.set i (ita d.A j) } : Hd).A.length = d.A.length from List.length_set] at this
      exact this
    · have := hU.mem.ldb hb
      rw [show ({ d with A := swL d.A i j } : Hd).A.length = d.A.length from swL_len _ _ _] at this
      exact this : (Instr.loadAt 35 (.pointer (some ⟨g, 0, none⟩))).run Try.prog U = .ok (.slice (some ⟨b, 0, none⟩) d.A.length d.kc) U))
  have HI1 := Lib.hid (fun U (hU : Gh Bd g d w d f U) => hU.mem.item hb hi)
  have HI2 := Lib.hid (fun U (hU : Gh Bd g d w d f U) => hU.mem.item hb hj)
  have HL2 := Lib.hid (fun U f2 (hU : Gh Bd g d w { d with A := swL d.A i j } f2 U) => (by
    have := hU.mem.ldb hb
    rw [show ({ d with A := swL d.A i j } : Hd).A.length = d.A.length from swL_len _ _ _] at this
    exact this : (Instr.loadAt 35 (.pointer (some ⟨g, 0, none⟩))).run Try.prog U = .ok (.slice (some ⟨b, 0, none⟩) d.A.length d.kc) U))
  have HM2 := Lib.hid (fun U f2 (hU : Gh Bd g d w { d with A := swL d.A i j } f2 U) => hU.mem.ld1)
  have HA1 := Lib.hid (fun U f2 (hU : Gh Bd g d w { d with A := swL d.A i j } f2 U) => (by
    have := hU.mem.id (i := i) hb (by show i < (swL d.A i j).length; rw [swL_len]; exact hi)
    rw [show ita ({ d with A := swL d.A i j } : Hd).A i = ita d.A j from ita_sw1 hi hj] at this
    exact this : (Instr.loadAt 3 (.pointer (some ⟨b, i * 3, none⟩))).run Try.prog U = .ok (.int .i64 (ita d.A j).1) U))
  have HA2 := Lib.hid (fun U f2 (hU : Gh Bd g d w { d with A := swL d.A i j } f2 U) => (by
    have := hU.mem.id (i := j) hb (by show j < (swL d.A i j).length; rw [swL_len]; exact hj)
    rw [show ita ({ d with A := swL d.A i j } : Hd).A j = ita d.A i from ita_sw2 hi hj] at this
    exact this : (Instr.loadAt 3 (.pointer (some ⟨b, j * 3, none⟩))).run Try.prog U = .ok (.int .i64 (ita d.A i).1) U))
  have HP := Lib.hid (fun U f2 (hU : Gh Bd g d w { d with A := swL d.A i j } f2 U) x v => hU.mem.mp.put x v)
  have HG := Lib.hid (fun U f2 (hU : Gh Bd g d w { d with A := swL d.A i j } f2 U) U2 f3 (hm : Mf U2 d.B f3) (hg : U.grownBy U2 (some d.B)) => hU.trans (Gh.map hU.mem (hB d.B ⟨1, rfl⟩) hm hg))
  unfold exF
  obtain ⟨A2, hA2⟩ : ∃ A2, swL d.A i j = A2 := ⟨_, rfl⟩
  rw [hA2] at HS2 HLX HL2 HM2 HA1 HA2 HP HG ⊢
  have HI : Hid (i < d.A.length ∧ j < d.A.length) := Lib.hid ⟨hi, hj⟩
  obtain ⟨n, hn⟩ : ∃ n, d.A.length = n := ⟨_, rfl⟩
  rw [hn] at HLX HL2 hi hj
  generalize ita d.A i = y at *
  generalize ita d.A j = x at *
  clear h hB hw hb hA2 hn
  go_enter Try.func27, Try.ntmps27
  go_upto_region 0 with fail
  have h0 := XW.start (H0.out.drew) (P1 := fun U => Gh Bd g d w { d with A := d.A.set i x } f U) (P2 := fun U => Gh Bd g d w { d with A := A2 } f U)
  refine wp_region_inv (fun listed act9 V => ∃ b0 b1 b2 b3 b4 b5 b6 b7 b8 b9 b10 b11 b12 b13 b14 b15 b16 b17 b18 b19 b20 b21 b22 b23 b24 b25 b26 b27 : Bool, listed = #[b0, b1, b2, b3, b4, b5, b6, b7, b8, b9, b10, b11, b12, b13, b14, b15, b16, b17, b18, b19, b20, b21, b22, b23, b24, b25, b26, b27] ∧ act9 = { tmps := #[.pointer (some ⟨g, 0, none⟩), .int .i64 i, .int .i64 j, undef, undef, undef, (cond b0 (.pointer (some ⟨g, 0, none⟩)) undef), (cond b1 (.pointer (some ⟨g, 0, none⟩)) undef), (cond b2 (.pointer (some ⟨g, 0, none⟩)) undef), (cond b3 (.slice (some ⟨b, 0, none⟩) n d.kc) undef), (cond b4 (.int .i64 i) undef), (cond b5 (.pointer (some ⟨g, 0, none⟩)) undef), (cond b6 (.pointer (some ⟨g, 0, none⟩)) undef), (cond b7 (.pointer (some ⟨g, 0, none⟩)) undef), (cond b8 (.slice (some ⟨b, 0, none⟩) n d.kc) undef), (cond b9 (.int .i64 j) undef), (cond b10 (.pointer (some ⟨g, 0, none⟩)) undef), (cond b11 (.pointer (some ⟨g, 0, none⟩)) undef), (cond b12 (.pointer (some ⟨g, 0, none⟩)) undef), (cond b13 (.slice (some ⟨b, 0, none⟩) n d.kc) undef), (cond b14 (.int .i64 j) undef), (cond b15 (.pointer (some ⟨b, j * 3, none⟩)) undef), (cond b16 (.agg (itA x)) undef), (cond b17 (.pointer (some ⟨g, 0, none⟩)) undef), (cond b18 (.pointer (some ⟨g, 0, none⟩)) undef), (cond b19 (.pointer (some ⟨g, 0, none⟩)) undef), (cond b20 (.slice (some ⟨b, 0, none⟩) n d.kc) undef), (cond b21 (.int .i64 i) undef), (cond b22 (.pointer (some ⟨b, i * 3, none⟩)) undef), (cond b23 (.agg (itA y)) undef), (cond b24 (.pointer (some ⟨b, i * 3, none⟩)) undef), (cond b26 (.pointer (some ⟨b, j * 3, none⟩)) undef), undef, undef, undef, undef, undef, undef, undef, undef, undef, undef, undef, undef, undef, undef, undef, undef, undef, undef, undef, undef, undef, undef, undef, undef, undef, undef], defers := [] } ∧ XW (fun U => Gh Bd g d w d f U) (fun U => Gh Bd g d w { d with A := d.A.set i x } f U) (fun U => Gh Bd g d w { d with A := A2 } f U) b16 b23 b25 b27 V) (by kernel_rfl) (by kernel_rfl) ?_ ?_ ?_
  · exact ⟨false, false, false, false, false, false, false, false, false, false, false, false, false, false, false, false, false, false, false, false, false, false, false, false, false, false, false, false, rfl, rfl, h0⟩
  · intro i9 listed act9 V hi9 hr hJ
    obtain ⟨b0, b1, b2, b3, b4, b5, b6, b7, b8, b9, b10, b11, b12, b13, b14, b15, b16, b17, b18, b19, b20, b21, b22, b23, b24, b25, b26, b27, rfl, rfl, hF⟩ := hJ
    have hi2 : i9 < 28 := hi9
    have hi3 : i9 = 0 ∨ i9 = 1 ∨ i9 = 2 ∨ i9 = 3 ∨ i9 = 4 ∨ i9 = 5 ∨ i9 = 6 ∨ i9 = 7 ∨ i9 = 8 ∨ i9 = 9 ∨ i9 = 10 ∨ i9 = 11 ∨ i9 = 12 ∨ i9 = 13 ∨ i9 = 14 ∨ i9 = 15 ∨ i9 = 16 ∨ i9 = 17 ∨ i9 = 18 ∨ i9 = 19 ∨ i9 = 20 ∨ i9 = 21 ∨ i9 = 22 ∨ i9 = 23 ∨ i9 = 24 ∨ i9 = 25 ∨ i9 = 26 ∨ i9 = 27 := by omega
    rcases hi3 with rfl | rfl | rfl | rfl | rfl | rfl | rfl | rfl | rfl | rfl | rfl | rfl | rfl | rfl | rfl | rfl | rfl | rfl | rfl | rfl | rfl | rfl | rfl | rfl | rfl | rfl | rfl | rfl
    · obtain rfl : b0 = false := ready_self hr
      refine st_val rfl (by kernel_rfl) (some 6) rfl (.pointer (some ⟨g, 0, none⟩)) V (by kernel_rfl) ?_
      exact ⟨true, b1, b2, b3, b4, b5, b6, b7, b8, b9, b10, b11, b12, b13, b14, b15, b16, b17, b18, b19, b20, b21, b22, b23, b24, b25, b26, b27, rfl, rfl, hF⟩
    · obtain rfl : b1 = false := ready_self hr
      obtain rfl : b0 = true := ready_dep hr 0 (by kernel_rfl)
      refine st_val rfl (by kernel_rfl) (some 7) rfl (.pointer (some ⟨g, 0, none⟩)) V (by kernel_rfl) ?_
      exact ⟨true, true, b2, b3, b4, b5, b6, b7, b8, b9, b10, b11, b12, b13, b14, b15, b16, b17, b18, b19, b20, b21, b22, b23, b24, b25, b26, b27, rfl, rfl, hF⟩
    · obtain rfl : b2 = false := ready_self hr
      obtain rfl : b1 = true := ready_dep hr 1 (by kernel_rfl)
      refine st_val rfl (by kernel_rfl) (some 8) rfl (.pointer (some ⟨g, 0, none⟩)) V (by kernel_rfl) ?_
      exact ⟨b0, true, true, b3, b4, b5, b6, b7, b8, b9, b10, b11, b12, b13, b14, b15, b16, b17, b18, b19, b20, b21, b22, b23, b24, b25, b26, b27, rfl, rfl, hF⟩
    · obtain rfl : b3 = false := ready_self hr
      obtain rfl : b2 = true := ready_dep hr 2 (by kernel_rfl)
      refine st_load rfl (by kernel_rfl) (some 9) rfl 35 (.tmp 8) rfl ⟨g, 0, none⟩ (.slice (some ⟨b, 0, none⟩) n d.kc) (by kernel_rfl) (HLX.out V hF.any) ?_
      exact ⟨b0, b1, true, true, b4, b5, b6, b7, b8, b9, b10, b11, b12, b13, b14, b15, b16, b17, b18, b19, b20, b21, b22, b23, b24, b25, b26, b27, rfl, rfl, hF⟩
    · obtain rfl : b4 = false := ready_self hr
      refine st_val rfl (by kernel_rfl) (some 10) rfl (.int .i64 i) V (by kernel_rfl) ?_
      exact ⟨b0, b1, b2, b3, true, b5, b6, b7, b8, b9, b10, b11, b12, b13, b14, b15, b16, b17, b18, b19, b20, b21, b22, b23, b24, b25, b26, b27, rfl, rfl, hF⟩
    · obtain rfl : b5 = false := ready_self hr
      refine st_val rfl (by kernel_rfl) (some 11) rfl (.pointer (some ⟨g, 0, none⟩)) V (by kernel_rfl) ?_
      exact ⟨b0, b1, b2, b3, b4, true, b6, b7, b8, b9, b10, b11, b12, b13, b14, b15, b16, b17, b18, b19, b20, b21, b22, b23, b24, b25, b26, b27, rfl, rfl, hF⟩
    · obtain rfl : b6 = false := ready_self hr
      obtain rfl : b5 = true := ready_dep hr 5 (by kernel_rfl)
      refine st_val rfl (by kernel_rfl) (some 12) rfl (.pointer (some ⟨g, 0, none⟩)) V (by kernel_rfl) ?_
      exact ⟨b0, b1, b2, b3, b4, true, true, b7, b8, b9, b10, b11, b12, b13, b14, b15, b16, b17, b18, b19, b20, b21, b22, b23, b24, b25, b26, b27, rfl, rfl, hF⟩
    · obtain rfl : b7 = false := ready_self hr
      obtain rfl : b6 = true := ready_dep hr 6 (by kernel_rfl)
      refine st_val rfl (by kernel_rfl) (some 13) rfl (.pointer (some ⟨g, 0, none⟩)) V (by kernel_rfl) ?_
      exact ⟨b0, b1, b2, b3, b4, b5, true, true, b8, b9, b10, b11, b12, b13, b14, b15, b16, b17, b18, b19, b20, b21, b22, b23, b24, b25, b26, b27, rfl, rfl, hF⟩
    · obtain rfl : b8 = false := ready_self hr
      obtain rfl : b7 = true := ready_dep hr 7 (by kernel_rfl)
      refine st_load rfl (by kernel_rfl) (some 14) rfl 35 (.tmp 13) rfl ⟨g, 0, none⟩ (.slice (some ⟨b, 0, none⟩) n d.kc) (by kernel_rfl) (HLX.out V hF.any) ?_
      exact ⟨b0, b1, b2, b3, b4, b5, b6, true, true, b9, b10, b11, b12, b13, b14, b15, b16, b17, b18, b19, b20, b21, b22, b23, b24, b25, b26, b27, rfl, rfl, hF⟩
    · obtain rfl : b9 = false := ready_self hr
      refine st_val rfl (by kernel_rfl) (some 15) rfl (.int .i64 j) V (by kernel_rfl) ?_
      exact ⟨b0, b1, b2, b3, b4, b5, b6, b7, b8, true, b10, b11, b12, b13, b14, b15, b16, b17, b18, b19, b20, b21, b22, b23, b24, b25, b26, b27, rfl, rfl, hF⟩
    · obtain rfl : b10 = false := ready_self hr
      refine st_val rfl (by kernel_rfl) (some 16) rfl (.pointer (some ⟨g, 0, none⟩)) V (by kernel_rfl) ?_
      exact ⟨b0, b1, b2, b3, b4, b5, b6, b7, b8, b9, true, b11, b12, b13, b14, b15, b16, b17, b18, b19, b20, b21, b22, b23, b24, b25, b26, b27, rfl, rfl, hF⟩
    · obtain rfl : b11 = false := ready_self hr
      obtain rfl : b10 = true := ready_dep hr 10 (by kernel_rfl)
      refine st_val rfl (by kernel_rfl) (some 17) rfl (.pointer (some ⟨g, 0, none⟩)) V (by kernel_rfl) ?_
      exact ⟨b0, b1, b2, b3, b4, b5, b6, b7, b8, b9, true, true, b12, b13, b14, b15, b16, b17, b18, b19, b20, b21, b22, b23, b24, b25, b26, b27, rfl, rfl, hF⟩
    · obtain rfl : b12 = false := ready_self hr
      obtain rfl : b11 = true := ready_dep hr 11 (by kernel_rfl)
      refine st_val rfl (by kernel_rfl) (some 18) rfl (.pointer (some ⟨g, 0, none⟩)) V (by kernel_rfl) ?_
      exact ⟨b0, b1, b2, b3, b4, b5, b6, b7, b8, b9, b10, true, true, b13, b14, b15, b16, b17, b18, b19, b20, b21, b22, b23, b24, b25, b26, b27, rfl, rfl, hF⟩
    · obtain rfl : b13 = false := ready_self hr
      obtain rfl : b12 = true := ready_dep hr 12 (by kernel_rfl)
      refine st_load rfl (by kernel_rfl) (some 19) rfl 35 (.tmp 18) rfl ⟨g, 0, none⟩ (.slice (some ⟨b, 0, none⟩) n d.kc) (by kernel_rfl) (HLX.out V hF.any) ?_
      exact ⟨b0, b1, b2, b3, b4, b5, b6, b7, b8, b9, b10, b11, true, true, b14, b15, b16, b17, b18, b19, b20, b21, b22, b23, b24, b25, b26, b27, rfl, rfl, hF⟩
    · obtain rfl : b14 = false := ready_self hr
      refine st_val rfl (by kernel_rfl) (some 20) rfl (.int .i64 j) V (by kernel_rfl) ?_
      exact ⟨b0, b1, b2, b3, b4, b5, b6, b7, b8, b9, b10, b11, b12, b13, true, b15, b16, b17, b18, b19, b20, b21, b22, b23, b24, b25, b26, b27, rfl, rfl, hF⟩
    · obtain rfl : b15 = false := ready_self hr
      obtain rfl : b13 = true := ready_dep hr 13 (by kernel_rfl)
      obtain rfl : b14 = true := ready_dep hr 14 (by kernel_rfl)
      refine st_val rfl (by kernel_rfl) (some 21) rfl (.pointer (some ⟨b, j * 3, none⟩)) V (idx_it0 b n d.kc j hj _ _ _ rfl (by kernel_rfl) (by kernel_rfl)) ?_
      exact ⟨b0, b1, b2, b3, b4, b5, b6, b7, b8, b9, b10, b11, b12, true, true, true, b16, b17, b18, b19, b20, b21, b22, b23, b24, b25, b26, b27, rfl, rfl, hF⟩
    · obtain rfl : b16 = false := ready_self hr
      obtain rfl : b15 = true := ready_dep hr 15 (by kernel_rfl)
      obtain rfl : b25 = false := by cases b25; rfl; exact absurd (hF.c1 rfl).1 (by decide)
      refine st_load rfl (by kernel_rfl) (some 22) rfl 24 (.tmp 21) rfl ⟨b, j * 3, none⟩ (.agg (itA x)) (by kernel_rfl) (HI2.out V (hF.p0 rfl)) ?_
      exact ⟨b0, b1, b2, b3, b4, b5, b6, b7, b8, b9, b10, b11, b12, b13, b14, true, true, b17, b18, b19, b20, b21, b22, b23, b24, false, b26, b27, rfl, rfl, hF.m16⟩
    · obtain rfl : b17 = false := ready_self hr
      refine st_val rfl (by kernel_rfl) (some 23) rfl (.pointer (some ⟨g, 0, none⟩)) V (by kernel_rfl) ?_
      exact ⟨b0, b1, b2, b3, b4, b5, b6, b7, b8, b9, b10, b11, b12, b13, b14, b15, b16, true, b18, b19, b20, b21, b22, b23, b24, b25, b26, b27, rfl, rfl, hF⟩
    · obtain rfl : b18 = false := ready_self hr
      obtain rfl : b17 = true := ready_dep hr 17 (by kernel_rfl)
      refine st_val rfl (by kernel_rfl) (some 24) rfl (.pointer (some ⟨g, 0, none⟩)) V (by kernel_rfl) ?_
      exact ⟨b0, b1, b2, b3, b4, b5, b6, b7, b8, b9, b10, b11, b12, b13, b14, b15, b16, true, true, b19, b20, b21, b22, b23, b24, b25, b26, b27, rfl, rfl, hF⟩
    · obtain rfl : b19 = false := ready_self hr
      obtain rfl : b18 = true := ready_dep hr 18 (by kernel_rfl)
      refine st_val rfl (by kernel_rfl) (some 25) rfl (.pointer (some ⟨g, 0, none⟩)) V (by kernel_rfl) ?_
      exact ⟨b0, b1, b2, b3, b4, b5, b6, b7, b8, b9, b10, b11, b12, b13, b14, b15, b16, b17, true, true, b20, b21, b22, b23, b24, b25, b26, b27, rfl, rfl, hF⟩
    · obtain rfl : b20 = false := ready_self hr
      obtain rfl : b19 = true := ready_dep hr 19 (by kernel_rfl)
      refine st_load rfl (by kernel_rfl) (some 26) rfl 35 (.tmp 25) rfl ⟨g, 0, none⟩ (.slice (some ⟨b, 0, none⟩) n d.kc) (by kernel_rfl) (HLX.out V hF.any) ?_
      exact ⟨b0, b1, b2, b3, b4, b5, b6, b7, b8, b9, b10, b11, b12, b13, b14, b15, b16, b17, b18, true, true, b21, b22, b23, b24, b25, b26, b27, rfl, rfl, hF⟩
    · obtain rfl : b21 = false := ready_self hr
      refine st_val rfl (by kernel_rfl) (some 27) rfl (.int .i64 i) V (by kernel_rfl) ?_
      exact ⟨b0, b1, b2, b3, b4, b5, b6, b7, b8, b9, b10, b11, b12, b13, b14, b15, b16, b17, b18, b19, b20, true, b22, b23, b24, b25, b26, b27, rfl, rfl, hF⟩
    · obtain rfl : b22 = false := ready_self hr
      obtain rfl : b20 = true := ready_dep hr 20 (by kernel_rfl)
      obtain rfl : b21 = true := ready_dep hr 21 (by kernel_rfl)
      refine st_val rfl (by kernel_rfl) (some 28) rfl (.pointer (some ⟨b, i * 3, none⟩)) V (idx_it0 b n d.kc i hi _ _ _ rfl (by kernel_rfl) (by kernel_rfl)) ?_
      exact ⟨b0, b1, b2, b3, b4, b5, b6, b7, b8, b9, b10, b11, b12, b13, b14, b15, b16, b17, b18, b19, true, true, true, b23, b24, b25, b26, b27, rfl, rfl, hF⟩
    · obtain rfl : b23 = false := ready_self hr
      obtain rfl : b22 = true := ready_dep hr 22 (by kernel_rfl)
      obtain rfl : b25 = false := by cases b25; rfl; exact absurd (hF.c1 rfl).2 (by decide)
      refine st_load rfl (by kernel_rfl) (some 29) rfl 24 (.tmp 28) rfl ⟨b, i * 3, none⟩ (.agg (itA y)) (by kernel_rfl) (HI1.out V (hF.p0 rfl)) ?_
      exact ⟨b0, b1, b2, b3, b4, b5, b6, b7, b8, b9, b10, b11, b12, b13, b14, b15, b16, b17, b18, b19, b20, b21, true, true, b24, false, b26, b27, rfl, rfl, hF.m23⟩
    · obtain rfl : b24 = false := ready_self hr
      obtain rfl : b3 = true := ready_dep hr 3 (by kernel_rfl)
      obtain rfl : b4 = true := ready_dep hr 4 (by kernel_rfl)
      refine st_val rfl (by kernel_rfl) (some 30) rfl (.pointer (some ⟨b, i * 3, none⟩)) V (idx_it0 b n d.kc i hi _ _ _ rfl (by kernel_rfl) (by kernel_rfl)) ?_
      exact ⟨b0, b1, b2, true, true, b5, b6, b7, b8, b9, b10, b11, b12, b13, b14, b15, b16, b17, b18, b19, b20, b21, b22, b23, true, b25, b26, b27, rfl, rfl, hF⟩
    · obtain rfl : b25 = false := ready_self hr
      obtain rfl : b24 = true := ready_dep hr 24 (by kernel_rfl)
      obtain rfl : b16 = true := ready_dep hr 16 (by kernel_rfl)
      obtain rfl : b23 = true := ready_dep hr 23 (by kernel_rfl)
      obtain rfl : b27 = false := by cases b27; rfl; exact absurd (hF.c2 rfl) (by decide)
      obtain ⟨U1, hs1, hp1⟩ := HS1.out V (hF.p0 rfl)
      refine st_storeA rfl (by kernel_rfl) rfl 24 (.tmp 30) (.tmp 22) rfl (.pointer (some ⟨b, i * 3, none⟩)) (.agg (itA x)) (by kernel_rfl) (by kernel_rfl) U1 hs1 ?_
      exact ⟨b0, b1, b2, b3, b4, b5, b6, b7, b8, b9, b10, b11, b12, b13, b14, b15, true, b17, b18, b19, b20, b21, b22, true, true, true, b26, false, rfl, rfl, ⟨fun h => (by cases h), fun _ _ => hp1, fun h => (by cases h), fun _ => ⟨rfl, rfl⟩, fun h => (by cases h)⟩⟩
    · obtain rfl : b26 = false := ready_self hr
      obtain rfl : b8 = true := ready_dep hr 8 (by kernel_rfl)
      obtain rfl : b9 = true := ready_dep hr 9 (by kernel_rfl)
      refine st_val rfl (by kernel_rfl) (some 31) rfl (.pointer (some ⟨b, j * 3, none⟩)) V (idx_it0 b n d.kc j hj _ _ _ rfl (by kernel_rfl) (by kernel_rfl)) ?_
      exact ⟨b0, b1, b2, b3, b4, b5, b6, b7, true, true, b10, b11, b12, b13, b14, b15, b16, b17, b18, b19, b20, b21, b22, b23, b24, b25, true, b27, rfl, rfl, hF⟩
    · obtain rfl : b27 = false := ready_self hr
      obtain rfl : b26 = true := ready_dep hr 26 (by kernel_rfl)
      obtain rfl : b23 = true := ready_dep hr 23 (by kernel_rfl)
      obtain rfl : b25 = true := ready_dep hr 25 (by kernel_rfl)
      obtain ⟨U1, hs1, hp1⟩ := HS2.out V (hF.p1 rfl rfl)
      refine st_storeA rfl (by kernel_rfl) rfl 24 (.tmp 31) (.tmp 29) rfl (.pointer (some ⟨b, j * 3, none⟩)) (.agg (itA y)) (by kernel_rfl) (by kernel_rfl) U1 hs1 ?_
      exact ⟨b0, b1, b2, b3, b4, b5, b6, b7, b8, b9, b10, b11, b12, b13, b14, b15, b16, b17, b18, b19, b20, b21, b22, true, b24, true, true, true, rfl, rfl, ⟨fun h => (by cases h), fun _ h => (by cases h), fun _ => hp1, fun _ => ⟨(hF.c1 rfl).1, (hF.c1 rfl).2⟩, fun _ => rfl⟩⟩
  · intro act9 V hJ
    obtain ⟨b0, b1, b2, b3, b4, b5, b6, b7, b8, b9, b10, b11, b12, b13, b14, b15, b16, b17, b18, b19, b20, b21, b22, b23, b24, b25, b26, b27, he, rfl, hF⟩ := hJ
    have he : (#[true, true, true, true, true, true, true, true, true, true, true, true, true, true, true, true, true, true, true, true, true, true, true, true, true, true, true, true] : Array Bool) = #[b0, b1, b2, b3, b4, b5, b6, b7, b8, b9, b10, b11, b12, b13, b14, b15, b16, b17, b18, b19, b20, b21, b22, b23, b24, b25, b26, b27] := he
    simp only [Array.mk.injEq, List.cons.injEq, and_true] at he
    obtain ⟨rfl, rfl, rfl, rfl, rfl, rfl, rfl, rfl, rfl, rfl, rfl, rfl, rfl, rfl, rfl, rfl, rfl, rfl, rfl, rfl, rfl, rfl, rfl, rfl, rfl, rfl, rfl, rfl⟩ := he
    simp only [cond_true]
    have HG1 := Lib.hid (hF.p2 rfl)
    obtain ⟨U2, eU⟩ : ∃ U2, V = U2 := ⟨_, rfl⟩
    rw [eU] at HG1 ⊢
    clear hF h0 H0 HLX HI1 HI2 HS1 HS2 eU
    go_upto_region 1 with fail
    refine wp_region_class_tail (C := fun U => Gh Bd g d w { d with A := A2 } (f) U) 13 (by kernel_rfl) (by kernel_rfl) (HG1.out.drew) ?_
    simp only [List.take_succ_cons, List.take_zero, List.drop_succ_cons, List.drop_zero]
    refine gq_val (by kernel_rfl) (some 32) rfl (.pointer (some ⟨g, 0, none⟩)) (fun U hU => by kernel_rfl) ?_
    simp only [Act.put, List.setIfInBounds_toArray, List.set_cons_succ, List.set_cons_zero]
    refine gq_val (by kernel_rfl) (some 33) rfl (.pointer (some ⟨g, 0, none⟩)) (fun U hU => by kernel_rfl) ?_
    simp only [Act.put, List.setIfInBounds_toArray, List.set_cons_succ, List.set_cons_zero]
    refine gq_val (by kernel_rfl) (some 34) rfl (.pointer (some ⟨g, 1, none⟩)) (fun U hU => by kernel_rfl) ?_
    simp only [Act.put, List.setIfInBounds_toArray, List.set_cons_succ, List.set_cons_zero]
    refine gq_load (by kernel_rfl) (some 35) rfl 56 (.tmp 34) rfl ⟨g, 1, none⟩ (.map (some d.B)) (by kernel_rfl) (fun U hU => HM2.out U _ hU) ?_
    simp only [Act.put, List.setIfInBounds_toArray, List.set_cons_succ, List.set_cons_zero]
    refine gq_val (by kernel_rfl) (some 36) rfl (.pointer (some ⟨g, 0, none⟩)) (fun U hU => by kernel_rfl) ?_
    simp only [Act.put, List.setIfInBounds_toArray, List.set_cons_succ, List.set_cons_zero]
    refine gq_val (by kernel_rfl) (some 37) rfl (.pointer (some ⟨g, 0, none⟩)) (fun U hU => by kernel_rfl) ?_
    simp only [Act.put, List.setIfInBounds_toArray, List.set_cons_succ, List.set_cons_zero]
    refine gq_val (by kernel_rfl) (some 38) rfl (.pointer (some ⟨g, 0, none⟩)) (fun U hU => by kernel_rfl) ?_
    simp only [Act.put, List.setIfInBounds_toArray, List.set_cons_succ, List.set_cons_zero]
    refine gq_load (by kernel_rfl) (some 39) rfl 35 (.tmp 38) rfl ⟨g, 0, none⟩ (.slice (some ⟨b, 0, none⟩) n d.kc) (by kernel_rfl) (fun U hU => HL2.out U _ hU) ?_
    simp only [Act.put, List.setIfInBounds_toArray, List.set_cons_succ, List.set_cons_zero]
    refine gq_val (by kernel_rfl) (some 40) rfl (.int .i64 i) (fun U hU => by kernel_rfl) ?_
    simp only [Act.put, List.setIfInBounds_toArray, List.set_cons_succ, List.set_cons_zero]
    refine gq_val (by kernel_rfl) (some 41) rfl (.pointer (some ⟨b, i * 3, none⟩)) (fun U hU => idx_it0 b n d.kc i hi _ _ _ rfl (by kernel_rfl) (by kernel_rfl)) ?_
    simp only [Act.put, List.setIfInBounds_toArray, List.set_cons_succ, List.set_cons_zero]
    refine gq_val (by kernel_rfl) (some 42) rfl (.pointer (some ⟨b, i * 3, none⟩)) (fun U hU => by kernel_rfl) ?_
    simp only [Act.put, List.setIfInBounds_toArray, List.set_cons_succ, List.set_cons_zero]
    refine gq_load (by kernel_rfl) (some 43) rfl 3 (.tmp 42) rfl ⟨b, i * 3, none⟩ (.int .i64 x.1) (by kernel_rfl) (fun U hU => HA1.out U _ hU) ?_
    simp only [Act.put, List.setIfInBounds_toArray, List.set_cons_succ, List.set_cons_zero]
    refine gq_val (by kernel_rfl) (some 44) rfl (.int .i64 i) (fun U hU => by kernel_rfl) ?_
    simp only [Act.put, List.setIfInBounds_toArray, List.set_cons_succ, List.set_cons_zero]
    apply wpQuiet_nil
    intro X hX
    obtain ⟨X2, hp, hm, -, hg⟩ := HP.out X _ hX x.1 (i : Int)
    have HX := Lib.hid (HG.out X _ hX X2 _ hm hg)
    clear hm hg hX HG1
    refine gw_skip (by kernel_rfl) rfl X2 (ex_put 56 (.tmp 35) (.tmp 43) (.tmp 44) rfl (.map (some d.B)) (.int .i64 x.1) (.int .i64 i) (by kernel_rfl) (by kernel_rfl) (by kernel_rfl) hp) ?_
    apply wpList_nil
    clear hp
    go_upto_region 2 with fail
    refine wp_region_class_tail (C := fun U => Gh Bd g d w { d with A := A2 } (updF f x.1 (some (i : Int))) U) 13 (by kernel_rfl) (by kernel_rfl) (HX.out.drew) ?_
    simp only [List.take_succ_cons, List.take_zero, List.drop_succ_cons, List.drop_zero]
    refine gq_val (by kernel_rfl) (some 45) rfl (.pointer (some ⟨g, 0, none⟩)) (fun U hU => by kernel_rfl) ?_
    simp only [Act.put, List.setIfInBounds_toArray, List.set_cons_succ, List.set_cons_zero]
    refine gq_val (by kernel_rfl) (some 46) rfl (.pointer (some ⟨g, 0, none⟩)) (fun U hU => by kernel_rfl) ?_
    simp only [Act.put, List.setIfInBounds_toArray, List.set_cons_succ, List.set_cons_zero]
    refine gq_val (by kernel_rfl) (some 47) rfl (.pointer (some ⟨g, 1, none⟩)) (fun U hU => by kernel_rfl) ?_
    simp only [Act.put, List.setIfInBounds_toArray, List.set_cons_succ, List.set_cons_zero]
    refine gq_load (by kernel_rfl) (some 48) rfl 56 (.tmp 47) rfl ⟨g, 1, none⟩ (.map (some d.B)) (by kernel_rfl) (fun U hU => HM2.out U _ hU) ?_
    simp only [Act.put, List.setIfInBounds_toArray, List.set_cons_succ, List.set_cons_zero]
    refine gq_val (by kernel_rfl) (some 49) rfl (.pointer (some ⟨g, 0, none⟩)) (fun U hU => by kernel_rfl) ?_
    simp only [Act.put, List.setIfInBounds_toArray, List.set_cons_succ, List.set_cons_zero]
    refine gq_val (by kernel_rfl) (some 50) rfl (.pointer (some ⟨g, 0, none⟩)) (fun U hU => by kernel_rfl) ?_
    simp only [Act.put, List.setIfInBounds_toArray, List.set_cons_succ, List.set_cons_zero]
    refine gq_val (by kernel_rfl) (some 51) rfl (.pointer (some ⟨g, 0, none⟩)) (fun U hU => by kernel_rfl) ?_
    simp only [Act.put, List.setIfInBounds_toArray, List.set_cons_succ, List.set_cons_zero]
    refine gq_load (by kernel_rfl) (some 52) rfl 35 (.tmp 51) rfl ⟨g, 0, none⟩ (.slice (some ⟨b, 0, none⟩) n d.kc) (by kernel_rfl) (fun U hU => HL2.out U _ hU) ?_
    simp only [Act.put, List.setIfInBounds_toArray, List.set_cons_succ, List.set_cons_zero]
    refine gq_val (by kernel_rfl) (some 53) rfl (.int .i64 j) (fun U hU => by kernel_rfl) ?_
    simp only [Act.put, List.setIfInBounds_toArray, List.set_cons_succ, List.set_cons_zero]
    refine gq_val (by kernel_rfl) (some 54) rfl (.pointer (some ⟨b, j * 3, none⟩)) (fun U hU => idx_it0 b n d.kc j hj _ _ _ rfl (by kernel_rfl) (by kernel_rfl)) ?_
    simp only [Act.put, List.setIfInBounds_toArray, List.set_cons_succ, List.set_cons_zero]
    refine gq_val (by kernel_rfl) (some 55) rfl (.pointer (some ⟨b, j * 3, none⟩)) (fun U hU => by kernel_rfl) ?_
    simp only [Act.put, List.setIfInBounds_toArray, List.set_cons_succ, List.set_cons_zero]
    refine gq_load (by kernel_rfl) (some 56) rfl 3 (.tmp 55) rfl ⟨b, j * 3, none⟩ (.int .i64 y.1) (by kernel_rfl) (fun U hU => HA2.out U _ hU) ?_
    simp only [Act.put, List.setIfInBounds_toArray, List.set_cons_succ, List.set_cons_zero]
    refine gq_val (by kernel_rfl) (some 57) rfl (.int .i64 j) (fun U hU => by kernel_rfl) ?_
    simp only [Act.put, List.setIfInBounds_toArray, List.set_cons_succ, List.set_cons_zero]
    apply wpQuiet_nil
    intro Y hY
    obtain ⟨Y2, hp, hm, -, hg⟩ := HP.out Y _ hY y.1 (j : Int)
    have HY := Lib.hid (HG.out Y _ hY Y2 _ hm hg)
    clear hm hg hY HX
    refine gw_skip (by kernel_rfl) rfl Y2 (ex_put 56 (.tmp 48) (.tmp 56) (.tmp 57) rfl (.map (some d.B)) (.int .i64 y.1) (.int .i64 j) (by kernel_rfl) (by kernel_rfl) (by kernel_rfl) hp) ?_
    apply wpList_nil
    clear hp
    clear HM2 HL2 HA1 HA2 HP HG HI
    go_wp2_with fail
    exact end_none rfl rfl ⟨rfl, HY.out⟩
end Go.Proofs.Ytepdibnbnhkpnaa
