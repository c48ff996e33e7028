/-
  The walk of ShaBlocks.
-/
import Derived.Test.YtfmfoangndladaaDoorN1
namespace Go.Proofs.YtfmfoangndladaaDoor
open Go.RowKit

theorem fill_by (i m : Nat) (x : Int) (h : i < m) : (List.replicate i x ++ List.replicate (m - i) 0).set i x = List.replicate (i + 1) x ++ List.replicate (m - (i + 1)) 0 := by
  have := fill_next (List.replicate i x) x (m - i) (m - (i + 1)) (by omega)
  rw [List.length_replicate] at this
  rw [this, List.replicate_succ']

set_option maxRecDepth 100000 in
set_option maxHeartbeats 4000000 in
theorem blocks_core (n : Nat) (x : Int) (w : World) (hn : n ≤ 255) (hx : W8 x) (hG : Glob w) :
    Calls Tryd.prog 6 #[.int .u8 n, .int .u8 x] w fun e w' => e = .returned (.bool true) ∧ Below w.heap.size w w' := by
  have hg2 := hG.size
  have hm0 : (n : Int) % 193 = ((n % 193 : Nat) : Int) := by omega
  have hml : n % 193 ≤ 192 := by omega
  generalize n % 193 = m at *
  have hmk := run_make_row' (P := Tryd.prog) 22 5 (.int .u8 0) 1 Tryd.underlying22 info5 rfl .i64 .i64 m (by omega) (by omega)
  have HG := Lib.hid hG
  have HX := Lib.hid hx
  clear hG hx
  go_enter Tryd.func6, Tryd.ntmps6
  go_upto_region 2 with fail
  have hA : Ab (w.alloc (.cells (madeCells #[.int .u8 0] m) 5)) w.heap.size 5 (List.replicate m 0) := by
    have : madeCells #[.int .u8 0] m = w8s (List.replicate m 0) := by
      apply Array.ext
      · simp [size_madeCells]
      · intro i h1 h2
        simp [madeCells, w8s, Nat.mod_one]
    rw [this]
    exact heap_alloc_last _ _
  have hW : Below w.heap.size w (w.alloc (.cells (madeCells #[.int .u8 0] m) 5)) := (Below.refl _ _).alloc (by simp) _
  generalize w.alloc (.cells (madeCells #[.int .u8 0] m) 5) = W at *
  clear hmk
  have HA := Lib.hid hA
  have HW := Lib.hid hW
  clear hA hW
  go_wp2_with fail
  go_loopg [13] m (fun g s13 wx => ∃ i : Nat, i ≤ m ∧ s13 = .int .i64 i ∧ Ab wx w.heap.size 5 (List.replicate i x ++ List.replicate (m - i) 0) ∧ Below w.heap.size w wx ∧ m - i = g)
  case atStart => exact ⟨0, by omega, by go_num, by simpa using HA.out, HW.out, rfl⟩
  case round =>
    clear HA HW W
    obtain ⟨i, hi, rfl, hA, hW, hgk⟩ := hrel
    by_cases hlt : i < m
    · have xz := hA.cell i (by simp; omega)
      have xf := hA.frozen i
      have hset := fill_by i m x hlt
      have HS := Lib.hid hset
      have HA := Lib.hid hA
      have HW := Lib.hid hW
      clear hset hA hW
      generalize (List.replicate i x ++ List.replicate (m - i) 0).getD i 0 = z at *
      go_wp2_with fail
      have NA := HA.out.set i x
      rw [HS.out] at NA
      go_roundg (m - (i + 1))
      case measure => omega
      case rel => exact ⟨i + 1, by omega, by go_num, NA, HW.out.setCell (by simp) _, rfl⟩
    · obtain rfl : i = m := by omega
      have hA' : Ab wr w.heap.size 5 (List.replicate i x) := by simpa using hA
      have hsl : Sl wr (some ⟨w.heap.size, 0, none⟩) i (List.replicate i x) := hA'.sl
      have hlL : (List.replicate i x).length = i := by simp
      have h8L : ∀ y, y ∈ List.replicate i x → W8 y := fun y hy => by rw [List.eq_of_mem_replicate hy]; exact HX.out
      have hlt' := hA'.lt
      have C1 := fsum_any (List.replicate i x) (some ⟨w.heap.size, 0, none⟩) i wr (HG.out.below hg2 hW) hsl (fun _ => by intro y hy; cases hy; simp; omega) (by omega) h8L (by omega)
      have C2 := fun w' (hb : Below wr.heap.size wr w') => ref_sha (some ⟨w.heap.size, 0, none⟩) i (List.replicate i x) w' (sl_below hsl hb) h8L (by omega)
      have C3 := fun w' (hb : Below w.heap.size w w') => known_true w' (HG.out.below hg2 hb)
      rw [hlL] at C1
      simp only [hlL] at C2
      obtain ⟨S, hS⟩ : ∃ S, S = shaL (List.replicate i x) := ⟨_, rfl⟩
      have hSl : S.length = 32 := by rw [hS]; exact shaL_len _
      rw [← hS] at C1
      simp only [← hS] at C2
      have hke := fun w => key_in S hSl w
      have hkg := key_guard
      have HW := Lib.hid hW
      clear hA hA' hsl h8L hlt' hW hS hlL hSl hgk
      go_wp2_with (first
        | (go_at_call 8; refine C1.mono ?_; rintro e w1 ⟨rfl, hb1⟩)
        | (go_at_call 9; refine (C2 _ hb1).mono ?_; rintro e w2 ⟨rfl, hb2⟩; have hb3 := (HW.out.trans (hb1.mono HW.out.size)); have hb4 := hb3.trans (hb2.mono hb3.size))
        | (go_at_call 7; refine (C3 _ hb4).mono ?_; rintro e w3 ⟨rfl, hb5⟩))
      go_ret
      exact ⟨rfl, hb4.trans (hb5.mono hb4.size)⟩
end Go.Proofs.YtfmfoangndladaaDoor
