/-
 The walk of ConfigParses.
-/
import Derived.Test.YtplfineaomneiaaDoorPZ
namespace Go.Proofs.YtplfineaomneiaaDoor
attribute [local irreducible] wpList wpQuiet
open Go.RowKit
set_option maxRecDepth 100000
set_option linter.unusedSimpArgs false
set_option linter.unusedVariables false

def wordsB : List ByteArray := [⟨#[109, 97, 120, 45, 116, 120, 115]⟩, ⟨#[112, 114, 105, 99, 101]⟩, ⟨#[98, 108, 111, 99, 107, 45, 103, 97, 115]⟩, ⟨#[110, 111, 100, 101, 115]⟩, ⟨#[115, 101, 108, 102]⟩, ⟨#[107, 101, 101, 112, 45, 105, 110, 118, 97, 108, 105, 100]⟩, ⟨#[116, 116, 108, 45, 116, 105, 109, 101]⟩, ⟨#[109, 97, 120, 45, 99, 97, 99, 104, 101]⟩, ⟨#[32]⟩, ⟨#[32]⟩, ⟨#[9]⟩, ⟨#[194, 160]⟩, ⟨#[226, 128, 131]⟩, ⟨#[227, 128, 128]⟩, ⟨#[10]⟩, ⟨#[10]⟩, ⟨#[35]⟩, ⟨#[49]⟩, ⟨#[50]⟩, ⟨#[48]⟩, ⟨#[45, 49]⟩, ⟨#[55]⟩, ⟨#[57, 57, 57, 57, 57, 57, 57, 57, 57, 57, 57, 57, 57, 57, 57, 57, 57, 57, 57, 57]⟩, ⟨#[49, 56, 52, 52, 54, 55, 52, 52, 48, 55, 51, 55, 48, 57, 53, 53, 49, 54, 49, 53]⟩, ⟨#[53, 49, 50]⟩, ⟨#[53, 49, 51]⟩, ⟨#[13]⟩, ⟨#[195, 169]⟩, ⟨#[255]⟩, ⟨#[120]⟩]
theorem words_len : wordsB.length = 30 := rfl
theorem words_size : ∀ k, k < 30 → (wordsB.getD k (⟨#[]⟩ : ByteArray)).size ≤ 40 := by decide +kernel
theorem build_words (V : World) : (Instr.buildSlice 39 30 #[(0, .string ⟨#[109, 97, 120, 45, 116, 120, 115]⟩), (1, .string ⟨#[112, 114, 105, 99, 101]⟩), (2, .string ⟨#[98, 108, 111, 99, 107, 45, 103, 97, 115]⟩), (3, .string ⟨#[110, 111, 100, 101, 115]⟩), (4, .string ⟨#[115, 101, 108, 102]⟩), (5, .string ⟨#[107, 101, 101, 112, 45, 105, 110, 118, 97, 108, 105, 100]⟩), (6, .string ⟨#[116, 116, 108, 45, 116, 105, 109, 101]⟩), (7, .string ⟨#[109, 97, 120, 45, 99, 97, 99, 104, 101]⟩), (8, .string ⟨#[32]⟩), (9, .string ⟨#[32]⟩), (10, .string ⟨#[9]⟩), (11, .string ⟨#[194, 160]⟩), (12, .string ⟨#[226, 128, 131]⟩), (13, .string ⟨#[227, 128, 128]⟩), (14, .string ⟨#[10]⟩), (15, .string ⟨#[10]⟩), (16, .string ⟨#[35]⟩), (17, .string ⟨#[49]⟩), (18, .string ⟨#[50]⟩), (19, .string ⟨#[48]⟩), (20, .string ⟨#[45, 49]⟩), (21, .string ⟨#[55]⟩), (22, .string ⟨#[57, 57, 57, 57, 57, 57, 57, 57, 57, 57, 57, 57, 57, 57, 57, 57, 57, 57, 57, 57]⟩), (23, .string ⟨#[49, 56, 52, 52, 54, 55, 52, 52, 48, 55, 51, 55, 48, 57, 53, 53, 49, 54, 49, 53]⟩), (24, .string ⟨#[53, 49, 50]⟩), (25, .string ⟨#[53, 49, 51]⟩), (26, .string ⟨#[13]⟩), (27, .string ⟨#[195, 169]⟩), (28, .string ⟨#[255]⟩), (29, .string ⟨#[120]⟩)]).run Tryd.prog V = .ok (.slice (some ⟨V.heap.size, 0, none⟩) 30 30) (V.alloc (.cells (strs wordsB).toArray 9)) := by
 obtain ⟨i0, hi, hz0, hz1, hz2⟩ := info_parts infoSt
 refine run_buildSlice V 39 9 30 _ (strs wordsB).toArray i0 _ Tryd.underlying39 hi hz0 (by rw [hz1]; omega) (by rw [hz1]; omega) ?_
 rw [hz1]
 kernel_rfl
set_option maxRecDepth 100000 in
set_option maxHeartbeats 8000000 in
theorem parses_core {w : World} (HQ : Prg w) (s : ByteArray) {a : Option Addr} {c : Nat} {L : List Int} (h : Cs w a (u8s L)) (h8 : ∀ x ∈ L, 0 ≤ x ∧ x ≤ 255) : Calls Tryd.prog 5 #[.string s, .slice a L.length c] w fun e w' => e = .returned (.bool true) ∧ Below w.heap.size w w' := by
 have HA : Hid (∀ V, Below w.heap.size w V → ∀ i, i < L.length → ∃ b off, ∃ x : Nat, a = some ⟨b, off, none⟩ ∧ V.cell? ⟨b, off + i, none⟩ = some (.int .u8 x) ∧ x < 256) := Lib.hid fun V hV i hi => by
  obtain ⟨b, off, e1, -, c1⟩ := u8_get (h.below hV) hi
  have hx := h8 (L.getD i 0) (by rw [List.getD_eq_getElem?_getD, List.getElem?_eq_getElem hi]; exact List.getElem_mem _)
  refine ⟨b, off, (L.getD i 0).toNat, e1, ?_, by omega⟩
  rw [c1, show (((L.getD i 0).toNat : Nat) : Int) = L.getD i 0 by omega]
 have HBD := Lib.hid build_words
 have HWS := Lib.hid words_size
 obtain ⟨n, hn⟩ : ∃ n, L.length = n := ⟨_, rfl⟩
 rw [hn] at HA ⊢
 obtain ⟨m, hm⟩ : ∃ m, s.size = m := ⟨_, rfl⟩
 have HWL := Lib.hid words_len
 generalize wordsB = WB at *
 clear h h8 hn
 go_enter Tryd.func5, Tryd.ntmps5
 go_upto_region 1 with fail
 by_cases h1 : 600 < m
 ·skip
  go_upto_region 1 with fail
  refine wl <| gz1 (.string s) <| gzv (.int .i64 m) (by rw [← hm]; kernel_rfl) <| gzb (gtr_n rfl (m) (600) dT) <| gz5 (.bool true) undef undef undef (.bool true) <| wn ?_
  simp only [pu]
  go_upto_region 2 with fail
  refine wl <| gzc (.bool true) (fun w' => Below w.heap.size w w') (known_true HQ w (Below.refl _ _)) (fun V2 hb2 => ?_)
  simp only [pu]
  refine gz1 (.bool true) <| wn ?_
  simp only [pu]
  go_wp2_with fail
  go_ret
  exact ⟨rfl, hb2⟩
 ·skip
  by_cases h2 : 40 < n
  ·skip
   go_upto_region 1 with fail
   refine wl <| gz1 (.string s) <| gzv (.int .i64 m) (by rw [← hm]; kernel_rfl) <| gzb (gtr_n rfl (m) (600) dF) <| gz3 (.bool false) (.slice a n c) (.int .i64 n) <|
    gzb (gtr_n rfl (n) (40) dT) <| gz1 (.bool true) <| wn ?_
   simp only [pu]
   go_upto_region 2 with fail
   refine wl <| gzc (.bool true) (fun w' => Below w.heap.size w w') (known_true HQ w (Below.refl _ _)) (fun V2 hb2 => ?_)
   simp only [pu]
   refine gz1 (.bool true) <| wn ?_
   simp only [pu]
   go_wp2_with fail
   go_ret
   exact ⟨rfl, hb2⟩
  ·skip
   go_upto_region 1 with fail
   refine wl <| gz1 (.string s) <| gzv (.int .i64 m) (by rw [← hm]; kernel_rfl) <| gzb (gtr_n rfl (m) (600) dF) <| gz3 (.bool false) (.slice a n c) (.int .i64 n) <|
    gzb (gtr_n rfl (n) (40) dF) <| gz1 (.bool false) <| wn ?_
   simp only [pu]
   go_upto_region 3 with fail
   refine wl <| gz1 (.string ⟨#[]⟩) <| wn ?_
   simp only [pu]
   go_upto_region 4 with fail
   refine wl <| gz3 (.slice a n c) (.int .i64 n) (.int .i64 0) <| wn ?_
   simp only [pu]
   go_wp2_with fail
   go_loopg [5, 19] n (fun gg s5 s19 wx => ∃ (i : Nat) (u : ByteArray), s19 = .int .i64 i ∧ s5 = .string u ∧ i ≤ n ∧ gg + i = n ∧ u.size ≤ 40 * i ∧ Hid (Below w.heap.size w wx))
   case atStart => exact ⟨0, _, rfl, rfl, by omega, by omega, Nat.le_refl _, Lib.hid (Below.refl _ _)⟩
   case round =>
    obtain ⟨i, u, hs19, hs5, hin, hg, hu, HR⟩ := hrel
    obtain rfl := hs19
    obtain rfl := hs5
    have HGK : Hid (gk + i = n) := Lib.hid hg
    clear hg
    by_cases hlt : i < n
    ·skip
     obtain ⟨b, off, x, hab, hcl, hx8⟩ := HA.out wr HR.out i hlt
     obtain rfl := hab
     have hbd := HBD.out wr
     have hbx : Bx (wr.alloc (.cells (strs WB).toArray 9)) wr.heap.size (strs WB).toArray 9 := heap_alloc_last wr _
     have hbw : Below wr.heap.size wr (wr.alloc (.cells (strs WB).toArray 9)) := (Below.refl _ wr).alloc (Nat.le_refl _) _
     generalize wr.alloc (.cells (strs WB).toArray 9) = V1 at *
     have HR1 := Lib.hid (HR.out.trans (hbw.mono HR.out.size))
     obtain ⟨g1, hg1⟩ : ∃ g, wr.heap.size = g := ⟨_, rfl⟩
     rw [hg1] at hbx hbd
     have hk : x % 30 < 30 := Nat.mod_lt _ (by omega)
     have hl28 : (Instr.loadAt 9 (.pointer (some ⟨g1, 0 + x % 30, none⟩))).run Tryd.prog V1 = .ok (.string (WB.getD (x % 30) (⟨#[]⟩ : ByteArray))) V1 := load_str hbx (k := x % 30) (by rw [HWL.out]; exact hk)
     have hws := HWS.out (x % 30) hk
     generalize WB.getD (x % 30) (⟨#[]⟩ : ByteArray) = y at *
     have hsz : u.size + y.size ≤ 9223372036854775807 := by omega
     have hsz2 : (u ++ y).size ≤ 40 * (i + 1) := by rw [ByteArray.size_append]; omega
     clear hbw hg1 hbx
     go_upto_region 5 with fail
     refine wl <| gzb (lss_n rfl (i) (n) dT) <| wn ?_
     simp only [pu]
     go_upto_region 6 with fail
     refine wl <| gzv (.pointer (some ⟨b, off + i, none⟩)) (idx_u8 b off n c i hlt _ _ _ rfl (by kernel_rfl) (by kernel_rfl)) <| gzl rfl ⟨b, off + i, none⟩ (.int .u8 x) (load_cell hcl (by kernel_rfl)) <| gz1 (.int .u8 x) <| wn ?_
     simp only [pu]
     go_upto_region 7 with fail
     refine wl <| gz1 (.string u) ?_
     simp only [pu]
     refine gw_build (by kernel_rfl) (some 24) rfl 39 30 #[(0, .const (.string ⟨#[109, 97, 120, 45, 116, 120, 115]⟩)), (1, .const (.string ⟨#[112, 114, 105, 99, 101]⟩)), (2, .const (.string ⟨#[98, 108, 111, 99, 107, 45, 103, 97, 115]⟩)), (3, .const (.string ⟨#[110, 111, 100, 101, 115]⟩)), (4, .const (.string ⟨#[115, 101, 108, 102]⟩)), (5, .const (.string ⟨#[107, 101, 101, 112, 45, 105, 110, 118, 97, 108, 105, 100]⟩)), (6, .const (.string ⟨#[116, 116, 108, 45, 116, 105, 109, 101]⟩)), (7, .const (.string ⟨#[109, 97, 120, 45, 99, 97, 99, 104, 101]⟩)), (8, .const (.string ⟨#[32]⟩)), (9, .const (.string ⟨#[32]⟩)), (10, .const (.string ⟨#[9]⟩)), (11, .const (.string ⟨#[194, 160]⟩)), (12, .const (.string ⟨#[226, 128, 131]⟩)), (13, .const (.string ⟨#[227, 128, 128]⟩)), (14, .const (.string ⟨#[10]⟩)), (15, .const (.string ⟨#[10]⟩)), (16, .const (.string ⟨#[35]⟩)), (17, .const (.string ⟨#[49]⟩)), (18, .const (.string ⟨#[50]⟩)), (19, .const (.string ⟨#[48]⟩)), (20, .const (.string ⟨#[45, 49]⟩)), (21, .const (.string ⟨#[55]⟩)), (22, .const (.string ⟨#[57, 57, 57, 57, 57, 57, 57, 57, 57, 57, 57, 57, 57, 57, 57, 57, 57, 57, 57, 57]⟩)), (23, .const (.string ⟨#[49, 56, 52, 52, 54, 55, 52, 52, 48, 55, 51, 55, 48, 57, 53, 53, 49, 54, 49, 53]⟩)), (24, .const (.string ⟨#[53, 49, 50]⟩)), (25, .const (.string ⟨#[53, 49, 51]⟩)), (26, .const (.string ⟨#[13]⟩)), (27, .const (.string ⟨#[195, 169]⟩)), (28, .const (.string ⟨#[255]⟩)), (29, .const (.string ⟨#[120]⟩))] rfl #[(0, .string ⟨#[109, 97, 120, 45, 116, 120, 115]⟩), (1, .string ⟨#[112, 114, 105, 99, 101]⟩), (2, .string ⟨#[98, 108, 111, 99, 107, 45, 103, 97, 115]⟩), (3, .string ⟨#[110, 111, 100, 101, 115]⟩), (4, .string ⟨#[115, 101, 108, 102]⟩), (5, .string ⟨#[107, 101, 101, 112, 45, 105, 110, 118, 97, 108, 105, 100]⟩), (6, .string ⟨#[116, 116, 108, 45, 116, 105, 109, 101]⟩), (7, .string ⟨#[109, 97, 120, 45, 99, 97, 99, 104, 101]⟩), (8, .string ⟨#[32]⟩), (9, .string ⟨#[32]⟩), (10, .string ⟨#[9]⟩), (11, .string ⟨#[194, 160]⟩), (12, .string ⟨#[226, 128, 131]⟩), (13, .string ⟨#[227, 128, 128]⟩), (14, .string ⟨#[10]⟩), (15, .string ⟨#[10]⟩), (16, .string ⟨#[35]⟩), (17, .string ⟨#[49]⟩), (18, .string ⟨#[50]⟩), (19, .string ⟨#[48]⟩), (20, .string ⟨#[45, 49]⟩), (21, .string ⟨#[55]⟩), (22, .string ⟨#[57, 57, 57, 57, 57, 57, 57, 57, 57, 57, 57, 57, 57, 57, 57, 57, 57, 57, 57, 57]⟩), (23, .string ⟨#[49, 56, 52, 52, 54, 55, 52, 52, 48, 55, 51, 55, 48, 57, 53, 53, 49, 54, 49, 53]⟩), (24, .string ⟨#[53, 49, 50]⟩), (25, .string ⟨#[53, 49, 51]⟩), (26, .string ⟨#[13]⟩), (27, .string ⟨#[195, 169]⟩), (28, .string ⟨#[255]⟩), (29, .string ⟨#[120]⟩)] (by kernel_rfl) (.slice (some ⟨g1, 0, none⟩) 30 30) _ hbd ?_
     simp only [pu]
     refine gz1 (.int .u8 x) <| gzw (.int .u8 (x % 30 : Nat)) (rem_8 rfl x 30 (by omega)) <| gzv (.pointer (some ⟨g1, 0 + x % 30, none⟩)) (idx_str8 g1 0 30 30 (x % 30) hk _ _ _ rfl (by kernel_rfl) (by kernel_rfl)) <|
      gzl rfl ⟨g1, 0 + x % 30, none⟩ (.string y) (hl28) <| gzw (.string (u ++ y)) (add_s rfl u y _ rfl hsz) <| gz1 (.string (u ++ y)) <| wn ?_
     simp only [pu]
     clear hcl hbd hl28 hws hsz
     go_upto_region 8 with fail
     refine wl <| gzv (.int .i64 (i + 1 : Nat)) (add_one rfl i (by omega) (by kernel_rfl) _) <| gz1 (.int .i64 (i + 1 : Nat)) <| wn ?_
     simp only [pu]
     go_wp2_with fail
     go_roundg (n - (i + 1))
     case measure => have := HGK.out; omega
     case rel => exact ⟨i + 1, _, rfl, rfl, by omega, by omega, hsz2, HR1⟩
    ·skip
     obtain rfl : i = n := by omega
     obtain ⟨y3, hy3⟩ : ∃ y, (⟨#[112, 114, 105, 99, 101, 32, 51, 10]⟩ : ByteArray) ++ u = y := ⟨_, rfl⟩
     have hy3s : y3.size ≤ 1000000 := by rw [← hy3, ByteArray.size_append]; show 8 + u.size ≤ _; omega
     have hy3l : (⟨#[112, 114, 105, 99, 101, 32, 51, 10]⟩ : ByteArray).size + u.size ≤ 9223372036854775807 := by show 8 + u.size ≤ _; omega
     go_upto_region 5 with fail
     refine wl <| gzb (lss_n rfl (i) (i) dF) <| wn ?_
     simp only [pu]
     go_upto_region 9 with fail
     refine wl <| gz1 (.string s) <| gzc (.bool true) (fun w' => Below wr.heap.size wr w') (r_parses HQ s (by omega) wr (HR.out)) (fun V2 hb2 => ?_)
     simp only [pu]
     refine gz2 (.bool true) (.string u) <| gzc (.bool true) (fun w' => Below V2.heap.size V2 w') (r_parses HQ u (by omega) V2 ((HR.out.trans (hb2.mono HR.out.size)))) (fun V3 hb3 => ?_)
     simp only [pu]
     refine gz3 (.bool true) (.bool true) (.string u) <| gzw (.string y3) (add_s rfl _ _ _ hy3 hy3l) <|
      gzc (.bool true) (fun w' => Below V3.heap.size V3 w') (r_parses HQ y3 (hy3s) V3 (((HR.out.trans (hb2.mono HR.out.size)).trans (hb3.mono (HR.out.trans (hb2.mono HR.out.size)).size)))) (fun V4 hb4 => ?_)
     simp only [pu]
     refine gz2 (.bool true) (.bool true) <|
      gzc (.bool true) (fun w' => Below V4.heap.size V4 w') (known_true HQ V4 ((((HR.out.trans (hb2.mono HR.out.size)).trans (hb3.mono (HR.out.trans (hb2.mono HR.out.size)).size)).trans (hb4.mono ((HR.out.trans (hb2.mono HR.out.size)).trans (hb3.mono (HR.out.trans (hb2.mono HR.out.size)).size)).size)))) (fun V5 hb5 => ?_)
     simp only [pu]
     refine gz2 (.bool true) (.bool true) <| wn ?_
     simp only [pu]
     have h23 := hb2.trans (hb3.mono hb2.size)
     have h24 := h23.trans (hb4.mono h23.size)
     have h25 := h24.trans (hb5.mono h24.size)
     have HE := Lib.hid (HR.out.trans (h25.mono HR.out.size))
     go_wp2_with fail
     go_ret
     exact ⟨rfl, HE.out⟩
end Go.Proofs.YtplfineaomneiaaDoor
