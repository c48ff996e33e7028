/-
  The walk of ShaSums.
-/
import Derived.Test.YtfmfoangndladaaDoorDB
namespace Go.Proofs.YtfmfoangndladaaDoor
open Go.RowKit

/-- The bytes that the walk makes. -/
def cx (n : Int) (i : Nat) : List Int := (List.range i).map fun (j : Nat) => bits .xor .u8 (j : Int) n
theorem cx_len (n : Int) (i : Nat) : (cx n i).length = i := by simp [cx]
theorem cx_set (n : Int) (i m : Nat) (h : i < m) : (cx n i ++ List.replicate (m - i) 0).set i (bits .xor .u8 (i : Int) n) = cx n (i + 1) ++ List.replicate (m - (i + 1)) 0 := by
  have := fill_next (cx n i) (bits .xor .u8 (i : Int) n) (m - i) (m - (i + 1)) (by omega)
  rw [cx_len] at this
  rw [this]
  simp [cx, List.range_succ]
theorem cx_bytes (n : Nat) (hn : n ≤ 255) (i : Nat) (hi : i ≤ 256) : ∀ x, x ∈ cx n i → W8 x := by
  intro x hx
  simp only [cx, List.mem_map, List.mem_range] at hx
  obtain ⟨j, hj, rfl⟩ := hx
  rw [u8_xor_nat j n (by omega) (by omega)]
  have := Nat.xor_lt_two_pow (n := 8) (show j < 2 ^ 8 by omega) (show n < 2 ^ 8 by omega)
  exact ⟨by omega, by omega⟩

set_option maxRecDepth 100000 in
theorem sums_long (a : Option Addr) (l c : Nat) (n : Int) (w : World) (hl : 300 < l) (hG : Glob w) :
    Calls Tryd.prog 3 #[.slice a l c, .int .u8 n] w fun e w' => e = .returned (.bool true) ∧ Below w.heap.size w w' := by
  have hb : decide ((300 : Int) < (l : Int)) = true := decide_eq_true (by omega)
  have C := known_true w hG
  go_enter Tryd.func3, Tryd.ntmps3
  go_wp2_with (go_at_call 7; refine C.mono ?_; rintro e w1 ⟨rfl, hb1⟩)
  go_ret
  exact ⟨rfl, hb1⟩

set_option maxRecDepth 100000 in
set_option maxHeartbeats 4000000 in
theorem sums_core (a : Option Addr) (c : Nat) (L : List Int) (n : Nat) (w : World) (hc : L.length ≤ c) (hs : Sl w a c L) (h8 : ∀ x, x ∈ L → W8 x) (hn : n ≤ 255) (hl : L.length ≤ 300) (hG : Glob w) :
    Calls Tryd.prog 3 #[.slice a L.length c, .int .u8 n] w fun e w' => e = .returned (.bool true) ∧ Below w.heap.size w w' := by
  have hg2 := hG.size
  have hm0 : 50 + (n : Int) % 90 = ((50 + n % 90 : Nat) : Int) := by omega
  have hml : 50 + n % 90 ≤ 139 := by omega
  generalize 50 + n % 90 = m at *
  have hmk := run_make_row' (P := Tryd.prog) 22 5 (.int .u8 0) 1 Tryd.underlying22 info5 rfl .i64 .i64 m (by omega) (by omega)
  have HG := Lib.hid hG
  have HS := Lib.hid hs
  have H8 := Lib.hid h8
  have HC8 := Lib.hid (cx_bytes n hn m (by omega))
  have hlen2 : (L.take (L.length / 2)).length = L.length / 2 := by simp; omega
  have HL2 := Lib.hid hlen2
  clear hG hs h8 hlen2
  have hdiv : (L.length : Int).tdiv 2 = ((L.length / 2 : Nat) : Int) := by simp
  have hsl2 := fun w => slice_to .i64 a L.length c (L.length / 2) w (by omega)
  generalize hln : L.length = ln at *
  have HLN := Lib.hid hln
  clear hln
  have hl2b : ln / 2 ≤ ln := by omega
  have hl2w : IntKind.i64.wrap ((ln / 2 : Nat) : Int) = ((ln / 2 : Nat) : Int) := by rw [IntKind.wrap_i64]; omega
  generalize hl2 : ln / 2 = l2 at *
  have HLL2 := Lib.hid hl2
  clear hl2
  go_enter Tryd.func3, Tryd.ntmps3
  go_upto_region 4 with fail
  have hA : Ab (w.alloc (.cells (madeCells #[.int .u8 0] m) 5)) w.heap.size 5 (List.replicate m 0) := by
    have : madeCells #[.int .u8 0] m = w8s (List.replicate m 0) := by
      apply Array.ext
      · simp [size_madeCells]
      · intro i h1 h2
        simp [madeCells, w8s, Nat.mod_one]
    rw [this]
    exact heap_alloc_last _ _
  have hW : Below w.heap.size w (w.alloc (.cells (madeCells #[.int .u8 0] m) 5)) := (Below.refl _ _).alloc (by simp) _
  generalize w.alloc (.cells (madeCells #[.int .u8 0] m) 5) = W at *
  clear hmk
  have HA := Lib.hid hA
  have HW := Lib.hid hW
  clear hA hW
  go_wp2_with fail
  go_loopg [20] m (fun g s20 wx => ∃ i : Nat, i ≤ m ∧ s20 = .int .i64 i ∧ Ab wx w.heap.size 5 (cx n i ++ List.replicate (m - i) 0) ∧ Below w.heap.size w wx ∧ m - i = g)
  case atStart => exact ⟨0, by omega, by go_num, by simpa [cx] using HA.out, HW.out, rfl⟩
  case round =>
    clear HA HW W
    obtain ⟨i, hi, rfl, hA, hW, hgk⟩ := hrel
    by_cases hlt : i < m
    · have xz := hA.cell i (by simp [cx_len]; omega)
      have xf := hA.frozen i
      have hset := cx_set n i m hlt
      have HST := Lib.hid hset
      have HA := Lib.hid hA
      have HW := Lib.hid hW
      clear hset hA hW
      generalize (cx n i ++ List.replicate (m - i) 0).getD i 0 = z at *
      have e0 : (i : Int) % 256 = (i : Int) := by omega
      go_wp2_with fail
      have NA := HA.out.set i (bits .xor .u8 (i : Int) n)
      rw [HST.out] at NA
      go_roundg (m - (i + 1))
      case measure => omega
      case rel => exact ⟨i + 1, by omega, by go_num, NA, HW.out.setCell (by simp) _, rfl⟩
    · obtain rfl : i = m := by omega
      have hA' : Ab wr w.heap.size 5 (cx n i) := by simpa using hA
      have hlt' := hA'.lt
      have HA := Lib.hid hA'
      have HW := Lib.hid hW
      clear hA hA' hW
      go_upto_region 10 with fail
      have hbV := (Below.refl wr.heap.size wr).alloc (Nat.le_refl _) (.cells #[.slice a ln c, .slice a l2 c, .slice (some ⟨w.heap.size, 0, none⟩) i i] 22)
      have hrow := heap_alloc_new wr (.cells #[.slice a ln c, .slice a l2 c, .slice (some ⟨w.heap.size, 0, none⟩) i i] 22)
      have hT : ∀ t, t < 3 → ∃ a' c' L', (wr.alloc (.cells #[.slice a ln c, .slice a l2 c, .slice (some ⟨w.heap.size, 0, none⟩) i i] 22)).cell? ⟨wr.heap.size, t, none⟩ = some (.slice a' L'.length c') ∧ Sl (wr.alloc (.cells #[.slice a ln c, .slice a l2 c, .slice (some ⟨w.heap.size, 0, none⟩) i i] 22)) a' c' L' ∧ L'.length ≤ c' ∧ (∀ x, x ∈ L' → W8 x) ∧ L'.length ≤ 400 := by
        intro t ht
        have hSV := sl_below HS.out (HW.out.trans (hbV.mono HW.out.size))
        match t, ht with
        | 0, _ => exact ⟨a, c, L, by rw [cell_of_row _ _ 0 _ 22 (0, 0) hrow, HLN.out]; rfl, hSV, by rw [HLN.out]; omega, H8.out, by rw [HLN.out]; omega⟩
        | 1, _ => exact ⟨a, c, L.take l2, by rw [cell_of_row _ _ 1 _ 22 (0, 0) hrow, HL2.out]; rfl, sl_take hSV l2, by rw [HL2.out]; omega, fun x hx => H8.out x (List.mem_of_mem_take hx), by rw [HL2.out]; omega⟩
        | 2, _ => exact ⟨some ⟨w.heap.size, 0, none⟩, i, cx n i, by rw [cell_of_row _ _ 2 _ 22 (0, 0) hrow, cx_len]; rfl, (HA.out.below hlt' hbV).sl, by rw [cx_len]; omega, HC8.out, by rw [cx_len]; omega⟩
      have hWV := HW.out.trans (hbV.mono HW.out.size)
      have hsV : (wr.alloc (.cells #[.slice a ln c, .slice a l2 c, .slice (some ⟨w.heap.size, 0, none⟩) i i] 22)).heap.size = wr.heap.size + 1 := by simp
      clear hrow hbV HA HW
      generalize wr.alloc (.cells #[.slice a ln c, .slice a l2 c, .slice (some ⟨w.heap.size, 0, none⟩) i i] 22) = V at *
      have HT := Lib.hid hT
      have HWV := Lib.hid hWV
      have HSV := Lib.hid hsV
      clear hT hWV hsV
      generalize wr.heap.size = gx at *
      clear wr
      go_loopg [40] 3 (fun g s40 wx => ∃ t : Nat, t ≤ 3 ∧ s40 = .int .i64 t ∧ Below V.heap.size V wx ∧ 3 - t = g)
      case atStart => exact ⟨0, by omega, by go_num, Below.refl _ _, rfl⟩
      case round =>
        obtain ⟨t, ht, rfl, hb, hgt⟩ := hrel
        have hbw := HWV.out.trans (hb.mono HWV.out.size)
        have hGr := HG.out.below hg2 hbw
        by_cases hlt3 : t < 3
        · obtain ⟨a', c', L', hcell, hsl, hc', h8', hl'⟩ := HT.out t hlt3
          have xc : wr.cell? ⟨gx, t, none⟩ = some (.slice a' L'.length c') := (hb.cell (p := ⟨gx, t, none⟩) (by rw [HSV.out]; simp)).trans hcell
          have hsr := sl_below hsl hb
          have C1 := fsum_any L' a' c' wr hGr hsr (fun h => hsr.off (by omega) h) hc' h8' (by omega)
          have C2 := fun w' (hb : Below wr.heap.size wr w') => ref_sha a' c' L' w' (sl_below hsr hb) h8' (by omega)
          obtain ⟨S, hS⟩ : ∃ S, S = shaL L' := ⟨_, rfl⟩
          have hSl : S.length = 32 := by rw [hS]; exact shaL_len _
          rw [← hS] at C1
          simp only [← hS] at C2
          have hke := fun w => key_in S hSl w
          have hkg := key_guard
          have HB := Lib.hid hb
          clear hcell hsl hsr hGr hbw hS hSl hb h8'
          go_wp2_with (first
            | (go_at_call 8; refine C1.mono ?_; rintro e w1 ⟨rfl, hb1⟩)
            | (go_at_call 9; refine (C2 _ hb1).mono ?_; rintro e w2 ⟨rfl, hb2⟩))
          have hb3 := HB.out.trans (hb1.mono HB.out.size)
          have hb4 := hb3.trans (hb2.mono hb3.size)
          go_roundg (3 - (t + 1))
          case measure => omega
          case rel => exact ⟨t + 1, by omega, by go_num, hb4, rfl⟩
        · have C3 := known_true wr hGr
          have HBW := Lib.hid hbw
          clear hbw hGr hb
          go_wp2_with (go_at_call 7; refine C3.mono ?_; rintro e w3 ⟨rfl, hb5⟩)
          go_ret
          exact ⟨rfl, HBW.out.trans (hb5.mono HBW.out.size)⟩
end Go.Proofs.YtfmfoangndladaaDoor
