/-
 The closure pad of ConfigSpaces: contract.
-/
import Derived.Test.YtplfineaomneiaaDoorWF
namespace Go.Proofs.YtplfineaomneiaaDoor
open Go.RowKit
set_option maxRecDepth 100000
set_option linter.unusedSimpArgs false
set_option linter.unusedVariables false

def padsB : List ByteArray := [⟨#[]⟩, ⟨#[32]⟩, ⟨#[9, 9]⟩, ⟨#[194, 160]⟩, ⟨#[226, 128, 131, 32]⟩, ⟨#[227, 128, 128]⟩]
def padT (k : Nat) : List (List Int) := [[], [[32]], [[9], [9]], [[194, 160]], [[226, 128, 131], [32]], [[227, 128, 128]]].getD k []
theorem pad_is : ∀ k, k < 6 → nums (padsB.getD k (⟨#[]⟩ : ByteArray)) = (padT k).flatten ∧ (padT k).all spL = true ∧ (padsB.getD k (⟨#[]⟩ : ByteArray)).size ≤ 4 := by decide +kernel
theorem build_pads (V : World) : (Instr.buildSlice 39 6 #[(0, .string ⟨#[]⟩), (1, .string ⟨#[32]⟩), (2, .string ⟨#[9, 9]⟩), (3, .string ⟨#[194, 160]⟩), (4, .string ⟨#[226, 128, 131, 32]⟩), (5, .string ⟨#[227, 128, 128]⟩)]).run Tryd.prog V = .ok (.slice (some ⟨V.heap.size, 0, none⟩) 6 6) (V.alloc (.cells (strs padsB).toArray 9)) := by
 obtain ⟨i0, hi, hz0, hz1, hz2⟩ := info_parts infoSt
 refine run_buildSlice V 39 9 6 _ (strs padsB).toArray i0 _ Tryd.underlying39 hi hz0 (by rw [hz1]; omega) (by rw [hz1]; omega) ?_
 rw [hz1]
 kernel_rfl
theorem rem_nn {ρ : Operand → Value} {o : Oper} {x y : Operand} (ho : o.op = .binOp .rem 3 x y 3) (a b : Nat) (hb : b ≠ 0) (hx : ρ x = .int .i64 a) (hy : ρ y = .int .i64 b) (w : World) : (execOp ρ o).run Tryd.prog w = .ok (.value (.int .i64 (a % b : Nat))) w := by
 have h0 : ¬ ((b : Int) = 0) := by omega
 have hw : (a : Int).tmod b = ((a % b : Nat) : Int) := by rw [Int.tmod_eq_emod_of_nonneg (by omega)]; exact (Int.natCast_emod a b).symm
 unfold execOp
 simp only [ho, hx, hy]
 go_simp
/-- The pad of a place. -/
def padS (L : List Int) (i : Nat) : ByteArray := if L.length = 0 then (⟨#[]⟩ : ByteArray) else padsB.getD ((L.getD (i % L.length) 0).toNat % 6) (⟨#[]⟩ : ByteArray)
theorem padS_is (L : List Int) (i : Nat) : ∃ ps : List (List Int), nums (padS L i) = ps.flatten ∧ (∀ r ∈ ps, spL r = true) ∧ (padS L i).size ≤ 4 := by
 unfold padS
 split
 ·exact ⟨[], rfl, fun r hr => (by cases hr), Nat.zero_le _⟩
 ·obtain ⟨h1, h2, h3⟩ := pad_is ((L.getD (i % L.length) 0).toNat % 6) (Nat.mod_lt _ (by omega))
  exact ⟨_, h1, List.all_eq_true.1 h2, h3⟩
def PdO (w : World) (s : ByteArray) (e : Ending) (w' : World) : Prop := e = .returned (.string s) ∧ Below w.heap.size w w'
/-- What the region of a pad keeps. -/
structure KP (W : World) (gw : Nat) (b0 b9 : Bool) (V : World) : Prop where
 bel : Below W.heap.size W V
 o9 : b9 = true → b0 = true
 no : b0 = false → V.heap.size = gw
 yes : b0 = true → Bx V gw (strs padsB).toArray 9
theorem KP.start (W : World) : KP W W.heap.size false false W.drew := ⟨(Below.refl _ W).drew, fun h => by (cases h), fun _ => rfl, fun h => by (cases h)⟩
theorem KP.s0 {W V : World} {gw : Nat} {b9 : Bool} (h : KP W gw false b9 V) : KP W gw true b9 (V.alloc (.cells (strs padsB).toArray 9)) := ⟨h.bel.alloc h.bel.size _, fun _ => rfl, fun q => by (cases q), fun _ => by
 have e := h.no rfl
 rw [← e]
 exact heap_alloc_last V _⟩
theorem KP.s9 {W V : World} {gw : Nat} {b9 : Bool} (h : KP W gw true b9 V) : KP W gw true true V := ⟨h.bel, fun _ => rfl, h.no, h.yes⟩
set_option maxRecDepth 100000 in
set_option maxHeartbeats 8000000 in
theorem r_pad {w : World} {g5 k5 : Nat} {a : Option Addr} {c : Nat} {L : List Int} (h5 : Bx w g5 #[.slice a L.length c] k5) (h : Cs w a (u8s L)) (h8 : ∀ x ∈ L, 0 ≤ x ∧ x ≤ 255) (hl : L.length ≤ 100000) (i : Nat) (hi : i ≤ 1000) : Calls Tryd.prog 23 #[.int .i64 i, .pointer (some ⟨g5, 0, none⟩)] w (PdO w (padS L i)) := by
 have HA : Hid (∀ k, k < L.length → ∃ b off, ∃ x : Nat, a = some ⟨b, off, none⟩ ∧ (∀ V, Below w.heap.size w V → V.cell? ⟨b, off + k, none⟩ = some (.int .u8 x)) ∧ x < 256 ∧ x = (L.getD k 0).toNat) := Lib.hid fun k hk => by
  obtain ⟨b, off, e1, -, -⟩ := u8_get h hk
  have hx := h8 (L.getD k 0) (by rw [List.getD_eq_getElem?_getD, List.getElem?_eq_getElem hk]; exact List.getElem_mem _)
  refine ⟨b, off, (L.getD k 0).toNat, e1, fun V hV => ?_, by omega, rfl⟩
  obtain ⟨b2, off2, e2, -, c1⟩ := u8_get (h.below hV) hk
  rw [e1] at e2
  injection e2 with e2
  injection e2 with e3 e4
  subst e3
  subst e4
  rw [c1, show (((L.getD k 0).toNat : Nat) : Int) = L.getD k 0 by omega]
 have HO : Hid (L.length ≠ 0 → ∀ V, Below w.heap.size w V → PdO w (padS L i) (.returned (.string (padsB.getD ((L.getD (i % L.length) 0).toNat % 6) (⟨#[]⟩ : ByteArray)))) V) := Lib.hid fun h0 V hb => by
  refine ⟨?_, hb⟩
  unfold padS
  rw [if_neg h0]
 have HO0 : Hid (L.length = 0 → PdO w (padS L i) (.returned (.string ⟨#[]⟩)) w) := Lib.hid fun h0 => by
  refine ⟨?_, Below.refl _ _⟩
  unfold padS
  rw [if_pos h0]
 obtain ⟨n, hn⟩ : ∃ n, L.length = n := ⟨_, rfl⟩
 rw [hn] at h5 HA hl HO HO0
 have h0 := KP.start w
 obtain ⟨gw, hgw⟩ : ∃ g, w.heap.size = g := ⟨_, rfl⟩
 have HLB : Hid (padsB.length = 6) := Lib.hid rfl
 obtain ⟨PO, hPO⟩ : ∃ PO, PdO w (padS L i) = PO := ⟨_, rfl⟩
 rw [hPO] at HO HO0 ⊢
 have h0' : KP w gw false false w.drew := by rw [← hgw]; exact h0
 clear h h8 hn hPO h0 hgw
 have h0 := h0'
 clear h0'
 go_enter Tryd.func23, Tryd.ntmps23
 go_upto_region 1 with fail
 by_cases hn0 : n = 0
 ·skip
  go_upto_region 1 with fail
  refine wl <| gzl rfl ⟨g5, 0, none⟩ (.slice a n c) (h5.load (i := 0) rfl (by kernel_rfl)) <| gz1 (.int .i64 n) <| gzb (eql_nn rfl n 0 (decide_eq_true hn0)) <| wn ?_
  simp only [pu]
  clear h5
  go_upto_region 2 with fail
  refine wl <| gz1 (.string ⟨#[]⟩) <| wn ?_
  simp only [pu]
  go_wp2_with fail
  exact HO0.out hn0
 ·skip
  have hmod : i % n < n := Nat.mod_lt _ (by omega)
  obtain ⟨b, off, x, hab, hcl, hx8, hxe⟩ := HA.out (i % n) hmod
  have hk6 : x % 6 < 6 := Nat.mod_lt _ (by omega)
  go_upto_region 1 with fail
  refine wl <| gzl rfl ⟨g5, 0, none⟩ (.slice a n c) (h5.load (i := 0) rfl (by kernel_rfl)) <| gz1 (.int .i64 n) <| gzb (eql_nn rfl n 0 (decide_eq_false hn0)) <| wn ?_
  simp only [pu]
  obtain rfl := hab
  go_upto_region 3 with fail
  refine wp_region_inv (fun listed act9 V => ∃ b0 b1 b2 b3 b4 b5 b6 b7 b8 b9 b10 b11 : Bool, listed = #[b0, b1, b2, b3, b4, b5, b6, b7, b8, b9, b10, b11] ∧ act9 = { tmps := #[.int .i64 i, .pointer (some ⟨g5, 0, none⟩), undef, (cond b11 (.string (padsB.getD (x % 6) (⟨#[]⟩ : ByteArray))) (.string ⟨#[]⟩)), .slice (some ⟨b, off, none⟩) n c, .int .i64 n, .bool false, (cond b0 (.slice (some ⟨gw, 0, none⟩) 6 6) undef), (cond b1 (.slice (some ⟨b, off, none⟩) n c) undef), (cond b2 (.int .i64 i) undef), (cond b3 (.slice (some ⟨b, off, none⟩) n c) undef), (cond b4 (.int .i64 n) undef), (cond b5 (.int .i64 (i % n : Nat)) undef), (cond b6 (.pointer (some ⟨b, off + i % n, none⟩)) undef), (cond b7 (.int .u8 x) undef), (cond b8 (.int .u8 (x % 6 : Nat)) undef), (cond b9 (.pointer (some ⟨gw, 0 + x % 6, none⟩)) undef), (cond b10 (.string (padsB.getD (x % 6) (⟨#[]⟩ : ByteArray))) undef)], defers := [] } ∧ KP w gw b0 b9 V) (by kernel_rfl) (by kernel_rfl) ?_ ?_ ?_
  ·exact ⟨false, false, false, false, false, false, false, false, false, false, false, false, rfl, rfl, h0⟩
  ·intro i9 listed act9 V hi9 hr hJ
   obtain ⟨b0, b1, b2, b3, b4, b5, b6, b7, b8, b9, b10, b11, rfl, rfl, hF⟩ := hJ
   have hi2 : i9 < 12 := hi9
   have hi3 : i9 = 0 ∨ i9 = 1 ∨ i9 = 2 ∨ i9 = 3 ∨ i9 = 4 ∨ i9 = 5 ∨ i9 = 6 ∨ i9 = 7 ∨ i9 = 8 ∨ i9 = 9 ∨ i9 = 10 ∨ i9 = 11 := by omega
   rcases hi3 with rfl | rfl | rfl | rfl | rfl | rfl | rfl | rfl | rfl | rfl | rfl | rfl
   ·obtain rfl : b0 = false := ready_self hr
    have e7 := hF.no rfl
    refine st_build rfl (by kernel_rfl) (some 7) rfl 39 6 #[(0, .const (.string ⟨#[]⟩)), (1, .const (.string ⟨#[32]⟩)), (2, .const (.string ⟨#[9, 9]⟩)), (3, .const (.string ⟨#[194, 160]⟩)), (4, .const (.string ⟨#[226, 128, 131, 32]⟩)), (5, .const (.string ⟨#[227, 128, 128]⟩))] rfl #[(0, .string ⟨#[]⟩), (1, .string ⟨#[32]⟩), (2, .string ⟨#[9, 9]⟩), (3, .string ⟨#[194, 160]⟩), (4, .string ⟨#[226, 128, 131, 32]⟩), (5, .string ⟨#[227, 128, 128]⟩)] (by kernel_rfl) (.slice (some ⟨gw, 0, none⟩) 6 6) _ (by rw [← e7]; exact build_pads V) ?_
    exact ⟨true, b1, b2, b3, b4, b5, b6, b7, b8, b9, b10, b11, rfl, rfl, hF.s0⟩
   ·obtain rfl : b1 = false := ready_self hr
    refine st_load rfl (by kernel_rfl) (some 8) rfl 38 (.tmp 1) rfl ⟨g5, 0, none⟩ (.slice (some ⟨b, off, none⟩) n c) (by kernel_rfl) ((h5.below h5.lt hF.bel).load (i := 0) rfl (by kernel_rfl)) ?_
    exact ⟨b0, true, b2, b3, b4, b5, b6, b7, b8, b9, b10, b11, rfl, rfl, hF⟩
   ·obtain rfl : b2 = false := ready_self hr
    refine st_val rfl (by kernel_rfl) (some 9) rfl (.int .i64 i) V (by kernel_rfl) ?_
    exact ⟨b0, b1, true, b3, b4, b5, b6, b7, b8, b9, b10, b11, rfl, rfl, hF⟩
   ·obtain rfl : b3 = false := ready_self hr
    refine st_load rfl (by kernel_rfl) (some 10) rfl 38 (.tmp 1) rfl ⟨g5, 0, none⟩ (.slice (some ⟨b, off, none⟩) n c) (by kernel_rfl) ((h5.below h5.lt hF.bel).load (i := 0) rfl (by kernel_rfl)) ?_
    exact ⟨b0, b1, b2, true, b4, b5, b6, b7, b8, b9, b10, b11, rfl, rfl, hF⟩
   ·obtain rfl : b4 = false := ready_self hr
    obtain rfl : b3 = true := ready_dep hr 3 (by kernel_rfl)
    refine st_val rfl (by kernel_rfl) (some 11) rfl (.int .i64 n) V (by kernel_rfl) ?_
    exact ⟨b0, b1, b2, true, true, b5, b6, b7, b8, b9, b10, b11, rfl, rfl, hF⟩
   ·obtain rfl : b5 = false := ready_self hr
    obtain rfl : b2 = true := ready_dep hr 2 (by kernel_rfl)
    obtain rfl : b4 = true := ready_dep hr 4 (by kernel_rfl)
    refine st_val rfl (by kernel_rfl) (some 12) rfl (.int .i64 (i % n : Nat)) V (rem_nn rfl i n hn0 (by kernel_rfl) (by kernel_rfl) _) ?_
    exact ⟨b0, b1, true, b3, true, true, b6, b7, b8, b9, b10, b11, rfl, rfl, hF⟩
   ·obtain rfl : b6 = false := ready_self hr
    obtain rfl : b1 = true := ready_dep hr 1 (by kernel_rfl)
    obtain rfl : b5 = true := ready_dep hr 5 (by kernel_rfl)
    refine st_val rfl (by kernel_rfl) (some 13) rfl (.pointer (some ⟨b, off + i % n, none⟩)) V (idx_u8 b off n c (i % n) hmod _ _ _ rfl (by kernel_rfl) (by kernel_rfl)) ?_
    exact ⟨b0, true, b2, b3, b4, true, true, b7, b8, b9, b10, b11, rfl, rfl, hF⟩
   ·obtain rfl : b7 = false := ready_self hr
    obtain rfl : b6 = true := ready_dep hr 6 (by kernel_rfl)
    refine st_load rfl (by kernel_rfl) (some 14) rfl 5 (.tmp 13) rfl ⟨b, off + i % n, none⟩ (.int .u8 x) (by kernel_rfl) (load_cell (hcl V hF.bel) (by kernel_rfl)) ?_
    exact ⟨b0, b1, b2, b3, b4, b5, true, true, b8, b9, b10, b11, rfl, rfl, hF⟩
   ·obtain rfl : b8 = false := ready_self hr
    obtain rfl : b7 = true := ready_dep hr 7 (by kernel_rfl)
    refine st_val rfl (by kernel_rfl) (some 15) rfl (.int .u8 (x % 6 : Nat)) V (rem_8 rfl x 6 (by omega) (by kernel_rfl) (by kernel_rfl) _) ?_
    exact ⟨b0, b1, b2, b3, b4, b5, b6, true, true, b9, b10, b11, rfl, rfl, hF⟩
   ·obtain rfl : b9 = false := ready_self hr
    obtain rfl : b0 = true := ready_dep hr 0 (by kernel_rfl)
    obtain rfl : b8 = true := ready_dep hr 8 (by kernel_rfl)
    refine st_val rfl (by kernel_rfl) (some 16) rfl (.pointer (some ⟨gw, 0 + x % 6, none⟩)) V (idx_str8 gw 0 6 6 (x % 6) hk6 _ _ _ rfl (by kernel_rfl) (by kernel_rfl)) ?_
    exact ⟨true, b1, b2, b3, b4, b5, b6, b7, true, true, b10, b11, rfl, rfl, hF.s9⟩
   ·obtain rfl : b10 = false := ready_self hr
    obtain rfl : b9 = true := ready_dep hr 9 (by kernel_rfl)
    obtain rfl : b0 = true := hF.o9 rfl
    refine st_load rfl (by kernel_rfl) (some 17) rfl 9 (.tmp 16) rfl ⟨gw, 0 + x % 6, none⟩ (.string (padsB.getD (x % 6) (⟨#[]⟩ : ByteArray))) (by kernel_rfl) (load_str (hF.yes rfl) (k := x % 6) (by rw [HLB.out]; exact hk6)) ?_
    exact ⟨true, b1, b2, b3, b4, b5, b6, b7, b8, true, true, b11, rfl, rfl, hF⟩
   ·obtain rfl : b11 = false := ready_self hr
    obtain rfl : b10 = true := ready_dep hr 10 (by kernel_rfl)
    refine st_val rfl (by kernel_rfl) (some 3) rfl (.string (padsB.getD (x % 6) (⟨#[]⟩ : ByteArray))) V (by kernel_rfl) ?_
    exact ⟨b0, b1, b2, b3, b4, b5, b6, b7, b8, b9, true, true, rfl, rfl, hF⟩
  ·intro act9 V hJ
   obtain ⟨b0, b1, b2, b3, b4, b5, b6, b7, b8, b9, b10, b11, he, rfl, hF⟩ := hJ
   have he : (#[true, true, true, true, true, true, true, true, true, true, true, true] : Array Bool) = #[b0, b1, b2, b3, b4, b5, b6, b7, b8, b9, b10, b11] := he
   simp only [Array.mk.injEq, List.cons.injEq, and_true] at he
   obtain ⟨rfl, rfl, rfl, rfl, rfl, rfl, rfl, rfl, rfl, rfl, rfl, rfl⟩ := he
   simp only [cond_true]
   have HE := Lib.hid (HO.out hn0 V hF.bel)
   rw [← hxe] at HE
   clear hF h0 h5 hcl hxe
   generalize padsB.getD (x % 6) (⟨#[]⟩ : ByteArray) = y at *
   go_wp2_with fail
   exact HE.out
end Go.Proofs.YtplfineaomneiaaDoor
