/-
 What the package-level variables hold; FormatUint at base 10; the program's text: contracts.
-/
import Derived.Test.YtplfineaomneiaaDoorSH
import Derived.Test.YtplfineaomneiaaDoorXV
import Derived.Lib.AppendIntMem
import Derived.BigCall
import Derived.BigGuard
namespace Go.Proofs.YtplfineaomneiaaDoor
attribute [local irreducible] wpList wpQuiet
open Go.RowKit Go.Sort Go.Lib
set_option maxRecDepth 100000
set_option linter.unusedSimpArgs false
set_option linter.unusedVariables false

theorem cell_below {w w' : World} (hb : Below w.heap.size w w') {a : Addr} {v : Value} (h : w.cell? a = some v) : w'.cell? a = some v := by
 have hlt : a.block < w.heap.size := by
  rcases Nat.lt_or_ge a.block w.heap.size with h' | h'
  ·exact h'
  ·simp [World.cell?, Array.getElem?_eq_none h'] at h
 rw [World.cell?_of_block (hb.block a.block hlt)]
 exact h
theorem var_below {w w' : World} (hb : Below w.heap.size w w') {name : String} {cs : Array Value} (h : w.var? Tryd.prog name = some cs) : w'.var? Tryd.prog name = some cs := by
 unfold World.var? at *
 cases hg : Tryd.prog.globalNamed name with
 | none => simp [hg] at h
 | some g =>
  simp only [hg, Option.bind_some] at h ⊢
  have hlt : g < w.heap.size := by
   rcases Nat.lt_or_ge g w.heap.size with h' | h'
   ·exact h'
   ·simp [Array.getElem?_eq_none h'] at h
  rw [hb.block g hlt]
  exact h
/-- What the package-level variables hold. -/
structure Glob (w : World) : Prop where
 tabs : Lib.Utf8Tabs 0 1 w
 err : ∃ (tp : TypeId) (p : Value), w.var? Tryd.prog "strconv.ErrRange" = some #[.iface tp p]
 pow : Lib.TabIs Tryd.prog w "internal/strconv.uint64pow10" .u64 Lib.pow10Tab
 most : ∃ m, w.cell? ⟨3, 0, none⟩ = some (.int .i64 m)
theorem Glob.below {w w' : World} (h : Glob w) (hb : Below w.heap.size w w') : Glob w' where
 tabs := ⟨fun c hc => cell_below hb (h.tabs.1 c hc), fun i hi => ⟨cell_below hb (h.tabs.2 i hi).1, cell_below hb (h.tabs.2 i hi).2⟩⟩
 err := by
  obtain ⟨tp, p, hv⟩ := h.err
  exact ⟨tp, p, var_below hb hv⟩
 pow := var_below hb h.pow
 most := by
  obtain ⟨m, hm⟩ := h.most
  exact ⟨m, cell_below hb hm⟩
theorem Glob.drew {w : World} (h : Glob w) : Glob w.drew := h.below (Below.refl _ w).drew
theorem nums_dec (u : Nat) : nums ⟨(Lib.decDigits u).toArray⟩ = decN u := by
 induction u using Nat.strongRecOn with
 | _ u ih =>
  rw [Lib.decDigits, decN]
  by_cases h : u < 10
  ·rw [dif_pos h, if_pos h]
   unfold nums
   simp [UInt8.toNat_ofNat]
   omega
  ·rw [dif_neg h, if_neg h, ← ih (u / 10) (by omega)]
   unfold nums
   simp [UInt8.toNat_ofNat]
   omega
set_option maxHeartbeats 6400000 in
set_option maxRecDepth 100000 in
theorem fmt_uint1 (u : Nat) (hu : u < 18446744073709551616) (w : World) (hG : Glob w) : Calls Tryd.prog 58 #[.int .u64 u, .int .i64 10] w fun e w' => e = .returned (.string ⟨(Lib.decDigits u).toArray⟩) ∧ Below w.heap.size w w' := by
 have htab := hG.pow
 by_cases hs : u < 100
 ·have hc : IntKind.i64.wrap (u : Int) = (u : Int) := by
   rw [show IntKind.i64.wrap (u : Int) = ((u : Int) + 9223372036854775808) % 18446744073709551616 - 9223372036854775808 by simp [IntKind.wrap, IntKind.signed, IntKind.bits]; omega]
   omega
  go_enter Tryd.func58, Tryd.ntmps58
  go_wp2_with (go_at_call 71; refine (internal_strconv_small u hs _).mono ?_; rintro e w' ⟨rfl, rfl⟩)
  go_ret
  exact ⟨rfl, Below.refl _ _⟩
 ·have hu1 : 1 ≤ u := by omega
  have hnd20 : Lib.nDigits u ≤ 20 := by have := Lib.numDigits_eq u hu1 hu; split at this <;> omega
  have hal : Tryd.prog.arrayLen 116 = 24 := by simp [Program.arrayLen, Tryd.underlying116]
  have hsl : ∀ W, (Instr.sliceAt 116 (.pointer (some ⟨w.heap.size, 0, none⟩)) none (some (.int .i64 (Lib.nDigits u : Int))) none).run Tryd.prog W = .ok (.slice (some ⟨w.heap.size, 0, none⟩) (Lib.nDigits u) 24) W := fun W => by
   rw [run_sliceAt_array_h W 116 ⟨w.heap.size, 0, none⟩ (by simp [Program.arrayLen, Program.elem, Tryd.underlying116]) .i64 (Lib.nDigits u : Int) (by omega) (by rw [hal]; omega)]
   go_simp
  have hH0 := Lib.holds_zero0 w 116 (Lib.nDigits u) (by omega)
  have hfmt := internal_strconv_formatBase10 w.heap.size 0 24 u (Array.replicate (Lib.nDigits u) 0) (w.alloc (.cells Lib.zeros24 116)) hH0 (by rw [Array.size_replicate]; exact Lib.lt_pow_nDigits u) hu (by rw [Array.size_replicate]; omega)
  rw [Array.size_replicate] at hfmt
  have HH0 := Lib.hid hH0
  clear hH0 hal
  go_enter Tryd.func58, Tryd.ntmps58
  go_wp2_with (go_at_call 72; refine (internal_strconv_numDigits u hu1 hu _ (Lib.tabIs_alloc htab _)).mono ?_; rintro e w' ⟨rfl, rfl⟩)
  go_at_call 73
  refine hfmt.mono ?_
  rintro e w' ⟨rfl, k, v', dk, rfl, hF⟩
  have hcv : (convert 38 9 (.slice (some ⟨w.heap.size, 0, none⟩) (Lib.nDigits u) 24)).run Tryd.prog ((putRow (fun (b : UInt8) => Value.int .u8 (b.toNat : Int)) (w.alloc (.cells Lib.zeros24 116)) w.heap.size 0 dk).drewN k) = .ok (.string ⟨(Lib.decDigits u).toArray⟩) ((putRow (fun (b : UInt8) => Value.int .u8 (b.toNat : Int)) (w.alloc (.cells Lib.zeros24 116)) w.heap.size 0 dk).drewN k) := by
   have h := run_convert_bytes_back (P := Tryd.prog) ((putRow (fun (b : UInt8) => Value.int .u8 (b.toNat : Int)) (w.alloc (.cells Lib.zeros24 116)) w.heap.size 0 dk).drewN k) 38 9 5 ⟨w.heap.size, 0, none⟩ 24 (Lib.decDigits u) Tryd.underlying38 Tryd.underlying5 Tryd.underlying9 (fun j hj => by
    rw [Lib.row_is_numeral hF j hj, Lib.add_plain, World.cell?_drewN]
    exact cell?_putRow (fun (b : UInt8) => Value.int .u8 (b.toNat : Int)) _ w.heap.size 0 _ dk HH0.out (by rw [hF.size, Array.size_replicate]) j (by rw [hF.size]; rw [Lib.decDigits_length] at hj; exact hj))
   rw [Lib.decDigits_length] at h
   exact h
  go_wp2
  go_ret
  obtain ⟨os, eo⟩ := Lib.fin_at w (.cells Lib.zeros24 116) dk k 0
  refine ⟨rfl, ?_⟩
  rw [eo]
  exact below_grow _ w (Nat.le_refl _) k os
theorem fmt_uint (u : Nat) (hu : u < 18446744073709551616) (w : World) (hG : Glob w) : Calls Tryd.prog 45 #[.int .u64 u, .int .i64 10] w fun e w' => e = .returned (.string ⟨(Lib.decDigits u).toArray⟩) ∧ Below w.heap.size w w' := by
 have C1 := fmt_uint1 u hu w hG
 generalize (.string ⟨(Lib.decDigits u).toArray⟩ : Value) = S at *
 go_enter Tryd.func45, Tryd.ntmps45
 go_wp2_with (go_at_call 58; refine C1.mono ?_; rintro e w' ⟨rfl, hb⟩)
 go_ret
 exact ⟨rfl, hb⟩
theorem fmt_uintN (u : Nat) (hu : u < 18446744073709551616) (w : World) (hG : Glob w) : Calls Tryd.prog 45 #[.int .u64 u, .int .i64 10] w fun e w' => e = .returned (.string (strOfNums (decN u))) ∧ Below w.heap.size w w' := by
 have h := fmt_uint u hu w hG
 rwa [← str_nums ⟨(Lib.decDigits u).toArray⟩, nums_dec] at h
set_option maxRecDepth 100000 in
set_option maxHeartbeats 8000000 in
theorem p_text {n : Int} (h1 : -9223372036854775808 ≤ n) (h2 : n < 18446744073709551616) (w : World) (hG : Glob w) : Calls Tryd.prog 34 #[.agg (nuA (decide (n < 0)) (absI n))] w fun e w' => e = .returned (.string (strOfNums (decI n))) ∧ Below w.heap.size w w' := by
 obtain ⟨u, hu⟩ : ∃ u : Nat, absI n = (u : Int) := ⟨(absI n).toNat, by unfold absI; split <;> omega⟩
 have hu2 : u < 18446744073709551616 := by unfold absI at hu; split at hu <;> omega
 have CF := fun V hV => fmt_uintN u hu2 V hV
 obtain ⟨s2, hs2⟩ : ∃ s2, strOfNums (decI n) = s2 := ⟨_, rfl⟩
 rw [hu, hs2]
 by_cases hm : n < 0
 ·have hu3 : (-n).toNat = u := by unfold absI at hu; rw [if_pos hm] at hu; omega
  have hd : (⟨#[45]⟩ : ByteArray) ++ strOfNums (decN u) = s2 := by
   rw [← hs2]; unfold decI
   rw [if_pos hm, hu3, show 45 :: decN u = [45] ++ decN u from rfl, str_app]
   rfl
  have hsz : (⟨#[45]⟩ : ByteArray).size + (strOfNums (decN u)).size ≤ 9223372036854775807 := by
   show 1 + _ ≤ _
   rw [strOfNums_size]
   have h9 := decI_len (n := (u : Int)) (by omega) (by omega)
   unfold decI at h9
   rw [if_neg (by omega), Int.toNat_natCast] at h9
   omega
  generalize strOfNums (decN u) = s at *
  rw [decide_eq_true hm]
  clear hs2 hm hu hu2 hu3 h1 h2
  go_enter Tryd.func34, Tryd.ntmps34
  go_upto_region 1 with fail
  change Code.wp _ _ _ _ (w.alloc (.cells #[.bool true, .int .u64 u] 62))
  have hb_0 : Below w.heap.size w (w.alloc (.cells #[.bool true, .int .u64 u] 62)) := (Below.refl _ w).alloc (Nat.le_refl _) _
  have hX1 : Bx (w.alloc (.cells #[.bool true, .int .u64 u] 62)) w.heap.size #[.bool true, .int .u64 u] 62 := heap_alloc_last w _
  have hs_0 : (w.alloc (.cells #[.bool true, .int .u64 u] 62)).heap.size = w.heap.size + 1 := by simp
  generalize w.alloc (.cells #[.bool true, .int .u64 u] 62) = W at *
  obtain ⟨g1, hg1⟩ : ∃ g, w.heap.size = g := ⟨_, rfl⟩
  rw [hg1] at hX1
  have HGE : Hid (g1 = w.heap.size + 0 ∧ W.heap.size = w.heap.size + 1) := Lib.hid ⟨by omega, by omega⟩
  have HB := Lib.hid hb_0
  simp only [hg1]
  clear hb_0 hs_0 hg1
  clear HGE
  refine wl <| gz1 (.pointer (some ⟨g1, 1, none⟩)) <| gzl rfl ⟨g1, 1, none⟩ (.int .u64 u) (hX1.load (i := 1) rfl (by kernel_rfl)) <| gzc (.string s) (fun w' => Below W.heap.size W w') (CF W (hG.below HB.out)) (fun V1 hb1 => ?_)
  simp only [pu]
  refine gz1 (.string s) <| wn ?_
  simp only [pu]
  have HE : Hid (Below w.heap.size w V1) := Lib.hid (HB.out.trans (hb1.mono HB.out.size))
  have hX2 := hX1.below hX1.lt hb1
  clear hX1 CF hb1 hG
  go_upto_region 2 with fail
  refine wl <| gz1 (.pointer (some ⟨g1, 0, none⟩)) <| gzl rfl ⟨g1, 0, none⟩ (.bool true) (hX2.load (i := 0) rfl (by kernel_rfl)) <| wn ?_
  simp only [pu]
  go_upto_region 3 with fail
  refine wl <| gz1 (.string s) <| gzw (.string s2) (add_s rfl _ _ _ hd hsz) <| gz1 (.string s2) <| wn ?_
  simp only [pu]
  go_wp2_with fail
  go_ret
  exact ⟨rfl, HE.out⟩
 ·have hd : strOfNums (decN u) = s2 := by
   rw [← hs2]; unfold decI
   rw [if_neg hm]
   unfold absI at hu; rw [if_neg hm] at hu
   rw [show n.toNat = u by omega]
  rw [hd] at CF
  rw [decide_eq_false hm]
  clear hs2 hm hu hu2 h1 h2 hd
  go_enter Tryd.func34, Tryd.ntmps34
  go_upto_region 1 with fail
  change Code.wp _ _ _ _ (w.alloc (.cells #[.bool false, .int .u64 u] 62))
  have hb_0 : Below w.heap.size w (w.alloc (.cells #[.bool false, .int .u64 u] 62)) := (Below.refl _ w).alloc (Nat.le_refl _) _
  have hX1 : Bx (w.alloc (.cells #[.bool false, .int .u64 u] 62)) w.heap.size #[.bool false, .int .u64 u] 62 := heap_alloc_last w _
  have hs_0 : (w.alloc (.cells #[.bool false, .int .u64 u] 62)).heap.size = w.heap.size + 1 := by simp
  generalize w.alloc (.cells #[.bool false, .int .u64 u] 62) = W at *
  obtain ⟨g1, hg1⟩ : ∃ g, w.heap.size = g := ⟨_, rfl⟩
  rw [hg1] at hX1
  have HGE : Hid (g1 = w.heap.size + 0 ∧ W.heap.size = w.heap.size + 1) := Lib.hid ⟨by omega, by omega⟩
  have HB := Lib.hid hb_0
  simp only [hg1]
  clear hb_0 hs_0 hg1
  clear HGE
  refine wl <| gz1 (.pointer (some ⟨g1, 1, none⟩)) <| gzl rfl ⟨g1, 1, none⟩ (.int .u64 u) (hX1.load (i := 1) rfl (by kernel_rfl)) <| gzc (.string s2) (fun w' => Below W.heap.size W w') (CF W (hG.below HB.out)) (fun V1 hb1 => ?_)
  simp only [pu]
  refine gz1 (.string s2) <| wn ?_
  simp only [pu]
  have HE : Hid (Below w.heap.size w V1) := Lib.hid (HB.out.trans (hb1.mono HB.out.size))
  have hX2 := hX1.below hX1.lt hb1
  clear hX1 CF hb1 hG
  go_upto_region 2 with fail
  refine wl <| gz1 (.pointer (some ⟨g1, 0, none⟩)) <| gzl rfl ⟨g1, 0, none⟩ (.bool false) (hX2.load (i := 0) rfl (by kernel_rfl)) <| wn ?_
  simp only [pu]
  go_upto_region 4 with fail
  refine wl <| gz2 (.string s2) (.string s2) <| wn ?_
  simp only [pu]
  go_wp2_with fail
  go_ret
  exact ⟨rfl, HE.out⟩
end Go.Proofs.YtplfineaomneiaaDoor
