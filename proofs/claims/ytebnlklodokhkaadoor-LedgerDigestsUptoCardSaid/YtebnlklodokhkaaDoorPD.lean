/-
  The contract of the program's digest: the digest of parts, one behind the other.
-/
import Derived.Test.YtebnlklodokhkaaDoorMR3
import Derived.Test.YtebnlklodokhkaaDoorPH
namespace Go.Proofs.YtebnlklodokhkaaDoor
open Go.RowKit
set_option linter.unusedSimpArgs false

theorem flat_next (ps : List (List Int)) (k : Nat) (h : k < ps.length) : (ps.take (k + 1)).flatten = (ps.take k).flatten ++ ps.getD k [] := by
  rw [take_next ps k h, List.flatten_append]
  simp
theorem flat_leP (ps : List (List Int)) (k : Nat) : (ps.take k).flatten.length ≤ ps.flatten.length := by
  conv => rhs; rw [← List.take_append_drop k ps, List.flatten_append, List.length_append]
  omega

set_option maxRecDepth 100000 in
set_option maxHeartbeats 4000000 in
theorem digest_any (ps : List (List Int)) (al : Option Addr) (c : Nat) (w : World) (hG : Glob w) (hn : ps.length ≤ 1000) (hR : RB w al ps) (hl : ps.flatten.length ≤ 400000) :
    Calls Tryd.prog 61 #[.slice al ps.length c] w fun e w' => e = .returned (.agg (w8s (shaL ps.flatten))) ∧ Below w.heap.size w w' := by
  have hg2 := hG.size
  have hb0 : Below w.heap.size w (w.alloc (.cells (w8s (List.replicate 32 0)) 32)) := (Below.refl _ _).alloc (by simp) _
  have hA0 : Ab (w.alloc (.cells (w8s (List.replicate 32 0)) 32)) w.heap.size 32 (List.replicate 32 0) := heap_alloc_last _ _
  have hs0 : (w.alloc (.cells (w8s (List.replicate 32 0)) 32)).heap.size = w.heap.size + 1 := by simp
  obtain ⟨S, hSS⟩ : ∃ S, S = shaL ps.flatten := ⟨_, rfl⟩
  have hq32 : (w8s S).size = 32 := by rw [hSS]; simp [shaL_len]
  have HSS := Lib.hid hSS
  rw [← hSS]
  clear hSS
  go_enter Tryd.func61, Tryd.ntmps61
  go_upto_region 1 with fail
  change Code.wp _ _ _ _ (w.alloc (.cells (w8s (List.replicate 32 0)) 32))
  generalize w.alloc (.cells (w8s (List.replicate 32 0)) 32) = W at *
  have hGW := hG.below hg2 hb0
  have hN := DM.new W
  have hbN : Below W.heap.size W (W.alloc (.cells (digs h0s z64 0).toArray 103)) := (Below.refl _ _).alloc (Nat.le_refl _) _
  have cN := new_any W hGW
  rw [hs0] at hN
  generalize W.alloc (.cells (digs h0s z64 0).toArray 103) = V at *
  have hZV := hA0.below (by omega) hbN
  have hbV : Below w.heap.size w V := hb0.trans (hbN.mono (by omega))
  rw [hs0] at cN
  have HBV := Lib.hid hbV
  have HR := Lib.hid hR
  have HG := Lib.hid hG
  have HL := Lib.hid hl
  have HN := Lib.hid hn
  have HDN := Lib.hid hN
  have HZV := Lib.hid hZV
  clear hb0 hA0 hGW hN hbN hbV hR hs0 hl hn hZV
  go_upto_region 2 with (go_at_call 58; refine cN.mono ?_; rintro e w1 ⟨rfl, rfl⟩)
  clear cN
  go_wp2_with fail
  go_loopg [9] ps.length (fun g s9 wx => ∃ k : Nat, s9 = .int .i64 k ∧ k ≤ ps.length ∧ DM wx (w.heap.size + 1) (ps.take k).flatten ∧ But (w.heap.size + 1) w1 wx ∧ ps.length - k = g)
  case atStart => exact ⟨0, rfl, by omega, HDN.out, But.refl _ _, rfl⟩
  case round =>
    obtain ⟨k, rfl, hk, hD, hB, hgk⟩ := hrel
    have hGx := hB.glob (by omega) (HG.out.below hg2 HBV.out)
    have hBw : Below w.heap.size w wr := HBV.out.trans (hB.below (by omega))
    by_cases hlt : k < ps.length
    · obtain ⟨b, off, ai, ci, rfl, hlb, hcl, hs, hlc, h8, h3⟩ := HR.out k hlt
      have hfl := flat_leP ps (k + 1)
      rw [flat_next ps k hlt] at hfl
      have hfl2 : (ps.take k).flatten.length + (ps.getD k []).length ≤ 400000 := by
        rw [List.length_append] at hfl
        have := HL.out
        omega
      have cW := write_any (w.heap.size + 1) (ps.take k).flatten (ps.getD k []) ai ci wr hGx (by omega) hD (sl_below hs hBw) (fun hne => hs.off (by omega) hne) hlc h8 (by omega)
      rw [← flat_next ps k hlt] at cW
      have hcx : wr.cell? ⟨b, off + k, none⟩ = some (.slice ai (ps.getD k []).length ci) := (hBw.cell (p := ⟨b, off + k, none⟩) hlb).trans hcl
      have hd : decide ((k : Int) < (ps.length : Int)) = true := decide_eq_true (by omega)
      have HFN : Hid (ps.length - (k + 1) = gk - 1) := Lib.hid (by omega)
      have HP : Hid (0 < gk) := Lib.hid (by omega)
      have HB := Lib.hid hB
      have HK : Hid (k + 1 ≤ ps.length) := Lib.hid (by omega)
      generalize (ps.getD k []).length = m at *
      clear hfl hfl2 hs hlc h8 h3 hD hB hGx hBw hlb hcl
      go_wp2_with (go_at_call 59; refine cW.mono ?_; rintro e w2 ⟨rfl, hM2, hb2⟩)
      go_roundg (gk - 1)
      case measure => have := HP.out; omega
      case rel => exact ⟨k + 1, by congr 1; have := HN.out; unfold wrap64; omega, HK.out, hM2, HB.out.trans hb2, HFN.out⟩
    · have hke : k = ps.length := by omega
      rw [hke, List.take_length] at hD
      have hd : decide ((k : Int) < (ps.length : Int)) = false := decide_eq_false (by omega)
      have hZ : Ab wr w.heap.size 32 (List.replicate 32 0) := by
        have h := HZV.out
        unfold Ab at h ⊢
        rw [hB.2 _ HZV.out.lt (by omega)]
        exact h
      have cS := sum_any (w.heap.size + 1) ps.flatten wr hGx (by omega) hD (by have := HL.out; omega)
      rw [← HSS.out] at cS
      clear hGx hB hD
      go_upto_region 7 with fail
      apply wp_region_lit
      refine gw_val (by kernel_rfl) (some 17) rfl (.pointer (some ⟨w.heap.size + 1, 0, none⟩)) (by kernel_rfl) ?_
      simp only [Act.put, List.setIfInBounds_toArray, List.set_cons_succ, List.set_cons_zero]
      refine gw_call (by kernel_rfl) (some 18) rfl 60 #[.pointer (some ⟨w.heap.size + 1, 0, none⟩)] (.agg (w8s S)) (Below wr.heap.size wr) (by kernel_rfl) cS (fun V1 hb1 => ?_)
      simp only [Act.put, List.setIfInBounds_toArray, List.set_cons_succ, List.set_cons_zero]
      have hZ1 := hZ.below hZ.lt hb1
      apply wpList_store_at (ty := 32) (x := .tmp 2) (y := .tmp 18) (g := w.heap.size) (c := w8s (List.replicate 32 0)) (c' := w8s S)
      case hgd => rfl
      case ho => rfl
      case hx => kernel_rfl
      case hy => kernel_rfl
      case hg => exact hZ1
      case hi => rw [hq32]; kernel_rfl
      case hz => rw [hq32]; rfl
      case h1 => exact one_w8s _
      apply wpList_nil
      have hA9 : Ab (V1.setRow w.heap.size (w8s S)) w.heap.size 32 S := setRow_heap _ _ _ _ _ _ hZ1
      have hb9 := belowRow (hBw.trans (hb1.mono hBw.size)) (Nat.le_refl w.heap.size) (w8s S)
      generalize V1.setRow w.heap.size (w8s S) = V9 at *
      simp only [Act.put]
      clear hZ hZ1 cS hb1 hBw hke hgk hk hlt hd HL HN HDN HZV HBV HG HR hG hg2
      go_wp2_with fail
      refine bodyPost_ret (v := .agg (w8s S)) ?_ rfl ⟨rfl, hb9⟩
      refine results_cell_row (fn := Tryd.f61) (p := 2) (ty := 32) rfl _ _ w.heap.size 32 (w8s S) (0, 0) (.array 32 5) rfl hA9 ?_ rfl ?_
      · kernel_rfl
      · rw [hq32]; kernel_rfl
end Go.Proofs.YtebnlklodokhkaaDoor
