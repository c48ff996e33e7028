/-
  The contract of the method Sum.
-/
import Derived.Test.YtebnlklodokhkaaDoorSK6
namespace Go.Proofs.YtebnlklodokhkaaDoor
set_option maxRecDepth 100000
open Go.RowKit

theorem one_w8s (L : List Int) : (w8s L).all (·.oneCell') = true := all_oneCell_toArray fun v hv => by
  obtain ⟨x, -, rfl⟩ := List.mem_map.1 hv
  rfl
theorem one_digs (H Bl : List Int) (n : Nat) : (digs H Bl n).toArray.all (·.oneCell') = true := all_oneCell_toArray fun v hv => by
  simp only [digs, List.mem_append, List.mem_map, List.mem_singleton] at hv
  rcases hv with ⟨x, -, rfl⟩ | ⟨x, -, rfl⟩ | rfl <;> rfl
theorem Ab.sl {w : World} {g t m : Nat} {L : List Int} (h : Ab w g t L) : Sl w (some ⟨g, 0, none⟩) m L :=
  .inr ⟨_, rfl, fun k hk => ⟨g, 0, rfl, by rw [Nat.zero_add]; exact h.cell k hk⟩⟩
theorem z64_len : z64.length = 64 := rfl

theorem outs_set (h : List Int) (k : Nat) (hk : k < 32) : (outs h k ++ List.replicate (32 - k) 0).set k (outByte h k) = outs h (k + 1) ++ List.replicate (32 - (k + 1)) 0 := by
  have := fill_next (outs h k) (outByte h k) (32 - k) (32 - (k + 1)) (by omega)
  rw [outs_len] at this
  rw [this, outs]

theorem states_bytes_pad (n : Nat) : ∀ x, x ∈ pad n → W8 x := by
  intro x hx
  simp only [pad, List.mem_append, List.mem_replicate, lenBytes, List.mem_cons, List.not_mem_nil, or_false] at hx
  unfold W8
  omega

set_option maxRecDepth 100000 in
set_option maxHeartbeats 8000000 in
theorem sum_any (g : Nat) (M : List Int) (w : World) (hG : Glob w) (h2 : 0 + 2 + 1 ≤ g) (hD : DM w g M) (hn : M.length ≤ 500000) :
    Calls Tryd.prog 60 #[.pointer (some ⟨g, 0, none⟩)] w fun e w' => e = .returned (.agg (w8s (shaL M))) ∧ Below w.heap.size w w' := by
  have hg := hD.lt
  obtain ⟨H, Bl, hd, hH, hB, hb8, hst, htk⟩ := hD
  have hz73 := digs_len H Bl M.length hH hB
  go_enter Tryd.func60, Tryd.ntmps60
  go_upto_region 3 with fail
  have hb0 : Below w.heap.size w (w.alloc (.cells (w8s (List.replicate 32 0)) 32)) := (Below.refl _ _).alloc (by simp) _
  have hA0 : Ab (w.alloc (.cells (w8s (List.replicate 32 0)) 32)) w.heap.size 32 (List.replicate 32 0) := heap_alloc_last _ _
  have hd0 := hd.below hg hb0
  have hs0 : (w.alloc (.cells (w8s (List.replicate 32 0)) 32)).heap.size = w.heap.size + 1 := by simp
  change Code.wp _ _ _ _ (w.alloc (.cells (w8s (List.replicate 32 0)) 32))
  generalize w.alloc (.cells (w8s (List.replicate 32 0)) 32) = W at *
  apply wp_region_lit
  refine wpList_plain rfl (fun K hK => ?_)
  go_simp
  apply hK
  clear hK K
  refine wpList_plain rfl (fun K hK => ?_)
  go_simp
  apply hK
  clear hK K
  apply wpList_load_row (ty := 103) (x := .tmp 12) (g := g) (t := 103) (cs := (digs H Bl M.length).toArray) (fr := (0, 0)) (hu := Tryd.underlying103)
  case hgd => rfl
  case ho => rfl
  case hx => kernel_rfl
  case hg => exact hd0
  case hd => rfl
  case hi => rw [List.size_toArray, hz73]; kernel_rfl
  refine run_to rfl (some 3) rfl (.pointer (some ⟨W.heap.size, 0, none⟩)) (W.alloc (.cells (digs (List.replicate 8 0) z64 0).toArray 103)) (by kernel_rfl) ?_
  apply wpList_store_new (w := W) (ty := 103) (x := .tmp 3) (y := .tmp 13) (c := (digs (List.replicate 8 0) z64 0).toArray) (c' := (digs H Bl M.length).toArray)
  case hgd => rfl
  case ho => rfl
  case hx => kernel_rfl
  case hy => kernel_rfl
  case hi => rw [List.size_toArray, hz73]; kernel_rfl
  case hz => rw [List.size_toArray, List.size_toArray, hz73]; rfl
  case h1 => exact one_digs _ _ _
  apply wpList_nil
  have hD1 : Dig (W.alloc (.cells (digs H Bl M.length).toArray 103)) W.heap.size H Bl M.length := heap_alloc_last _ _
  have hM1 : DM (W.alloc (.cells (digs H Bl M.length).toArray 103)) W.heap.size M := ⟨H, Bl, hD1, hH, hB, hb8, hst, htk⟩
  have hA1 : Ab (W.alloc (.cells (digs H Bl M.length).toArray 103)) w.heap.size 32 (List.replicate 32 0) := hA0.alloc _
  have hd1 := hd0.below (by omega : g < W.heap.size) ((Below.refl W.heap.size W).alloc (Nat.le_refl _) (.cells (digs H Bl M.length).toArray 103))
  have hb1 : Below w.heap.size w (W.alloc (.cells (digs H Bl M.length).toArray 103)) := hb0.alloc (by omega) _
  have hs1 : (W.alloc (.cells (digs H Bl M.length).toArray 103)).heap.size = w.heap.size + 2 := by simp [hs0]
  rw [hs0] at hM1
  simp only [hs0]
  clear hD1 hA0 hd0 hb0 hd
  generalize W.alloc (.cells (digs H Bl M.length).toArray 103) = V at *
  clear hs0 W
  have xl := hd1.length hH hB
  have hGV := hG.below h2 (hb1.mono (by omega) : Below g w V)
  have HG := Lib.hid hGV
  have HM1 := Lib.hid hM1
  have HA1 := Lib.hid hA1
  have HB1 := Lib.hid hb1
  have HH := Lib.hid hH
  have HB := Lib.hid hB
  have HGG := Lib.hid hG
  clear hGV hM1 hA1 hb1 hst htk hb8 hH hB hG hd1 hz73
  generalize hN : M.length = N at *
  have HN := Lib.hid hN
  clear hN
  have hpl72 : (pad N).length ≤ 72 := by rw [pad_len]; unfold zeros; omega
  have HPL72 := Lib.hid hpl72
  clear hpl72
  go_upto_region 6 with (first
    | (go_at_call 71; refine (padding_any N _ (by omega)).mono ?_; rintro e w2 ⟨gp, pl, rfl, hpl, hpA, hpg, hpb⟩; have HPL := Lib.hid hpl; have HPA := Lib.hid hpA; have HPB := Lib.hid hpb; clear hpl hpA hpb)
    | (go_at_call 59; have hcw := write_any (w.heap.size + 1) M (pad N) (some ⟨gp, 0, none⟩) pl w2 (HG.out.below (by omega) HPB.out) (by omega) (HM1.out.below (by omega) HPB.out) HPA.out.sl (fun _ => by intro x hx; cases hx; simp; omega) (by rw [HPL.out]; exact Nat.le_refl _) (states_bytes_pad N) (by have := HN.out; have := HPL72.out; omega); rw [← HPL.out] at hcw; refine hcw.mono ?_; rintro e w3 ⟨rfl, hM3, hb3⟩; have HM3 := Lib.hid hM3; have HB3 := Lib.hid hb3; clear hM3 hb3 hcw))
  have hA3 : Ab (w3.alloc (.cells (w8s (List.replicate 32 0)) 32)) w3.heap.size 32 (List.replicate 32 0) := heap_alloc_last _ _
  have hW2 : Below w.heap.size w w2 := HB1.out.trans (HPB.out.mono (by omega))
  have hW3 : Below w.heap.size w w3 := hW2.trans (HB3.out.below (by omega))
  have hW4 : Below w.heap.size w (w3.alloc (.cells (w8s (List.replicate 32 0)) 32)) := hW3.alloc hW3.size _
  have hZ3 : Ab w3 w.heap.size 32 (List.replicate 32 0) := by
    have h2' := HA1.out.below (by omega : w.heap.size < V.heap.size) HPB.out
    unfold Ab at h2' ⊢
    rw [HB3.out.2 _ (by have := HPB.out.size; omega) (by omega)]
    exact h2'
  have hZ4 : Ab (w3.alloc (.cells (w8s (List.replicate 32 0)) 32)) w.heap.size 32 (List.replicate 32 0) := hZ3.alloc _
  obtain ⟨H2, B2, hd2, hH2, hB2, -, hst2, -⟩ := HM3.out
  rw [← HN.out, ← padded_pad] at hst2
  have HST := Lib.hid hst2
  clear hst2
  have hd4 := hd2.but ((Below.refl w3.heap.size w3).alloc (Nat.le_refl _) (.cells (w8s (List.replicate 32 0)) 32))
  have hne : w.heap.size < w3.heap.size := hZ3.lt
  change Code.wp _ _ _ _ (w3.alloc (.cells (w8s (List.replicate 32 0)) 32))
  clear hd2 hZ3 hW2 hW3 HM3 HB3 HPA HPB HPL
  generalize w3.alloc (.cells (w8s (List.replicate 32 0)) 32) = W4 at *
  generalize w3.heap.size = kb at *
  clear w3 w2
  apply wp_region_lit
  refine wpList_plain rfl (fun K hK => ?_)
  go_simp
  apply hK
  clear hK K
  apply wpList_load_mid (ty := 95) (x := .tmp 20) (b := w.heap.size + 1) (o := 0) (cs := H2.map (Value.int .u32)) (d := .array 8 94)
  case hgd => rfl
  case ho => rfl
  case hx => kernel_rfl
  case hc => exact hd4.range
  case hu => kernel_rfl
  case hd => rfl
  case hi => rw [List.length_map, hH2]; kernel_rfl
  go_wp2_with fail
  have HH2 := Lib.hid hH2
  have hH2b : ∀ i, i < 8 → i < H2.length := fun i hi => by omega
  have HH2B := Lib.hid hH2b
  clear hH2 hH2b hd4 hB2 xl
  go_loopg [22] 8 (fun g s22 wx => ∃ i : Nat, i ≤ 8 ∧ s22 = .int .i64 i ∧ Ab wx w.heap.size 32 (List.replicate 32 0) ∧ Ab wx kb 32 (outs H2 (4 * i) ++ List.replicate (32 - 4 * i) 0) ∧ Below w.heap.size w wx ∧ 8 - i = g)
  case atStart => exact ⟨0, by omega, by go_num, hZ4, hA3, hW4, rfl⟩
  case round =>
    clear hZ4 hA3 hW4 W4
    obtain ⟨i, hi, rfl, hZ, hA, hW, hgk⟩ := hrel
    generalize wr = wR at *
    by_cases hlt : i < 8
    · have hix : (Instr.index 95 (.agg (H2.map (Value.int .u32)).toArray) (.int .i64 (i : Int))).run Tryd.prog wR = .ok (.int .u32 (H2.getD i 0)) wR := by
        refine run_index_agg 95 94 8 .i64 _ i _ wR (by kernel_rfl) hlt (by kernel_rfl) (by kernel_rfl) ?_
        have := HH2B.out i hlt
        simp [List.getD, this]
      have HQ : Hid (∀ j, j < 4 → outByte H2 (4 * i + j) = H2.getD i 0 / 2 ^ (24 - 8 * j) % 256) := Lib.hid (fun j hj => by
        unfold outByte
        rw [show (4 * i + j) / 4 = i by omega, show 24 - (4 * i + j) % 4 * 8 = 24 - 8 * j by omega])
      generalize H2.getD i 0 = h at *
      go_wp2_with fail
      go_loopg [26] 4 (fun g s26 wx => ∃ j : Nat, j ≤ 4 ∧ s26 = .int .i64 j ∧ Ab wx w.heap.size 32 (List.replicate 32 0) ∧ Ab wx kb 32 (outs H2 (4 * i + j) ++ List.replicate (32 - (4 * i + j)) 0) ∧ Below w.heap.size w wx ∧ 4 - j = g)
      case atStart => exact ⟨0, by omega, by go_num, hZ, hA, hW, rfl⟩
      case round =>
        clear hZ hA hW hix wR
        obtain ⟨j, hj, rfl, hZ1, hA1, hW1, hgj⟩ := hrel
        by_cases hltj : j < 4
        · have hl : (outs H2 (4 * i + j) ++ List.replicate (32 - (4 * i + j)) 0).length = 32 := by simp [outs_len]; omega
          have xz := hA1.cell (4 * i + j) (by omega)
          have xf := hA1.frozen (4 * i + j)
          have hset := outs_set H2 (4 * i + j) (by omega)
          rw [HQ.out j hltj] at hset
          have HSET := Lib.hid hset
          have HZ1 := Lib.hid hZ1
          have HA1 := Lib.hid hA1
          have HW1 := Lib.hid hW1
          clear hset hZ1 hA1 hW1 hl
          generalize (outs H2 (4 * i + j) ++ List.replicate (32 - (4 * i + j)) 0).getD (4 * i + j) 0 = z at *
          have hq : 4 * (i : Int) + (j : Int) = ((4 * i + j : Nat) : Int) := by omega
          have hq1 : ((4 * i + j : Nat) : Int) < 32 := by omega
          have hs : 24 - 8 * (j : Int) = ((24 - 8 * j : Nat) : Int) := by omega
          have hm32 : 24 - 8 * j ≤ 32 := by omega
          have HJ : Hid (4 * i + (j + 1) = 4 * i + j + 1) := Lib.hid rfl
          generalize hqq : 4 * i + j = q at *
          have HQQ := Lib.hid hqq
          clear hqq
          generalize hmm : 24 - 8 * j = m at *
          clear hmm
          have e1 := fun x => shr32 x m hm32
          go_wp2_with fail
          have NA := HA1.out.set q (h / 2 ^ m % 256)
          rw [HSET.out] at NA
          go_roundg (4 - (j + 1))
          case measure => omega
          case rel => exact ⟨j + 1, by omega, by go_num, HZ1.out.far _ (by simp; omega) _, by rw [HJ.out]; exact NA, HW1.out.setCell (by simp; omega) _, rfl⟩
        · obtain rfl : j = 4 := by omega
          have HZ1 := Lib.hid hZ1
          have HA1 := Lib.hid hA1
          have HW1 := Lib.hid hW1
          clear hZ1 hA1 hW1
          go_wp2_with fail
          go_roundg (8 - (i + 1))
          case measure => omega
          case rel => exact ⟨i + 1, by omega, by go_num, HZ1.out, HA1.out, HW1.out, rfl⟩
    · have hsh : outs H2 (4 * i) ++ List.replicate (32 - 4 * i) 0 = shaL M := by
        rw [show 32 - 4 * i = 0 by omega, List.replicate_zero, List.append_nil]
        unfold shaL
        rw [← HST.out]
        exact congrArg _ (by omega)
      obtain ⟨S, hS⟩ : ∃ S, S = shaL M := ⟨_, rfl⟩
      have hl : S.length = 32 := by rw [hS]; exact outs_len _ _
      rw [hsh, ← hS] at hA
      have HSS := Lib.hid hS
      have HZ := Lib.hid hZ
      have HA := Lib.hid hA
      have HW := Lib.hid hW
      have HL := Lib.hid hl
      clear hZ hA hW hl hsh hS
      go_upto_region 15 with fail
      have hq32 : (w8s S).size = 32 := by simp [HL.out]
      apply wp_region_lit
      apply wpList_load_row (ty := 32) (x := .tmp 4) (g := kb) (t := 32) (cs := w8s S) (fr := (0, 0)) (d := .array 32 5)
      case hgd => rfl
      case ho => rfl
      case hx => kernel_rfl
      case hg => exact HA.out
      case hu => kernel_rfl
      case hd => rfl
      case hi => rw [hq32]; kernel_rfl
      apply wpList_store_at (ty := 32) (x := .tmp 2) (y := .tmp 42) (g := w.heap.size) (c := w8s (List.replicate 32 0)) (c' := w8s S)
      case hgd => rfl
      case ho => rfl
      case hx => kernel_rfl
      case hy => kernel_rfl
      case hg => exact HZ.out
      case hi => rw [hq32]; kernel_rfl
      case hz => rw [hq32]; rfl
      case h1 => exact one_w8s _
      apply wpList_nil
      go_wp2_with fail
      refine bodyPost_ret (v := .agg (w8s S)) ?_ rfl ⟨by rw [HSS.out], belowRow HW.out (Nat.le_refl _) _⟩
      refine results_cell_row (fn := Tryd.f60) (p := 2) (ty := 32) rfl _ _ w.heap.size 32 (w8s S) (0, 0) (.array 32 5) rfl (setRow_heap _ _ _ _ _ _ HZ.out) ?_ rfl ?_
      · kernel_rfl
      · rw [hq32]; kernel_rfl
end Go.Proofs.YtebnlklodokhkaaDoor
