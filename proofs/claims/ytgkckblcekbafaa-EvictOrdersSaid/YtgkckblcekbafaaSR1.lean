/-
  The contract of the reference's Sha.
-/
import Derived.Test.YtgkckblcekbafaaSK7
namespace Go.Proofs.Ytgkckblcekbafaa
set_option maxRecDepth 100000
open Go.RowKit

/-- An empty row that was just made. -/
theorem own_empty (w : World) : (w.alloc (.cells #[] 5)).ownsRow w.heap.size 5 1 (.slice (some ⟨w.heap.size, 0, none⟩) 0 0) 0 [] :=
  ⟨by simp, .inr ⟨w.heap.size, 0, #[], rfl, Nat.le_refl _, heap_alloc_new w _, by omega, by unfold maxLen; omega, rfl, rfl⟩⟩
theorem lenBytes_next (b : Int) (j : Nat) (hj : j < 8) : (lenBytes b).take (j + 1) = (lenBytes b).take j ++ [b / 2 ^ (56 - 8 * j) % 256] := by
  match j, hj with
  | 0, _ | 1, _ | 2, _ | 3, _ | 4, _ | 5, _ | 6, _ | 7, _ => rfl
theorem padded_len (L : List Int) : (padded L).length = L.length + zeros L.length + 9 ∧ (padded L).length % 64 = 0 := by
  rw [padded_pad, List.length_append, pad_len]
  refine ⟨by omega, ?_⟩
  unfold zeros
  omega
theorem padded_bytes (L : List Int) (h8 : ∀ x, x ∈ L → W8 x) : ∀ x, x ∈ padded L → W8 x := by
  intro x hx
  rw [padded_pad, List.mem_append] at hx
  rcases hx with hx | hx
  · exact h8 x hx
  · exact states_bytes_pad _ x hx

theorem Byt.part {w : World} {g : Nat} {B : List Int} (h : Byt w g 0 B) (o n : Nat) (hn : o + n ≤ B.length) : Byt w g o ((B.drop o).take n) := by
  intro j hj
  have hj' : j < n := by simp at hj; omega
  have := h (o + j) (by omega)
  rw [Nat.zero_add] at this
  rw [this]
  simp only [List.getD]
  rw [List.getElem?_take_of_lt hj', List.getElem?_drop]
theorem loadArr {w : World} {g : Nat} {H : List Int} (h : Arr w g 66 H) (hH : H.length = 8) : (Instr.loadAt 66 (.pointer (some ⟨g, 0, none⟩))).run Try.prog w = .ok (.agg (w32s H)) w :=
  run_loadAt_mid w g 0 66 (H.map (Value.int .u32)) (.array 8 65) (fun j v hv => by
    rw [cell_of_row w g _ _ 66 (0, 0) h]
    simpa using hv) (by kernel_rfl) rfl (by simp only [List.length_map, hH]; kernel_rfl)
/-- A slice expression yields v. -/
theorem wpQ_slice {P : Program} {C : World → Prop} {ops : Array Oper} {Q : Act → Prop} {a : Act} {op : Oper} {rest : List Oper} (hgd : op.guard = none) (ty : TypeId) (x l h : Operand) (ho : op.op = .slice ty x (some l) (some h) none)
    (vx vl vh v : Value) (hx : a.eval x = vx) (hl : a.eval l = vl) (hh : a.eval h = vh) (hs : ∀ w, C w → (Instr.sliceAt ty vx (some vl) (some vh) none).run P w = .ok v w)
    (hK : wpQuiet P ops C Q rest (a.put op.dst v)) : wpQuiet P ops C Q (op :: rest) a := by
  refine wpQ_val hgd v (fun w hC => ?_) hK
  unfold execOp
  simp only [ho, hx, hl, hh, Option.map_some, Option.map_none, Sem.run_bind, hs w hC]
  rfl
theorem slice_mid (g n c l h : Nat) (w : World) (hl : l ≤ h) (hh : h ≤ c) (hc : c ≠ l) : (Instr.slice 48 (.slice (some ⟨g, 0, none⟩) n c) (some (.int .i64 (l : Int))) (some (.int .i64 (h : Int))) none).run Try.prog w = .ok (.slice (some ⟨g, l, none⟩) (h - l) (c - l)) w := by
  rw [slice_part .i64 .i64 _ n c l h w hl hh]
  unfold fromA
  rw [if_neg hc]
  simp only [Option.map_some]
  rw [Addr.add_mid, Nat.zero_add]

set_option maxRecDepth 100000 in
set_option maxHeartbeats 8000000 in
theorem ref_sha (a : Option Addr) (c : Nat) (L : List Int) (w : World) (hr : Sl w a c L) (h8 : ∀ x, x ∈ L → W8 x) (hn : L.length ≤ 400000) :
    Calls Try.prog 28 #[.slice a L.length c] w fun e w' => e = .returned (.agg (w8s (shaL L))) ∧ Below w.heap.size w w' := by
  obtain ⟨i0, hi, hz0, hz1, hz2⟩ := info_parts info5
  have HI := Lib.hid hi
  have HZ0 := Lib.hid hz0
  have HZ1 := Lib.hid hz1
  have HZ2 := Lib.hid hz2
  clear hi hz0 hz1 hz2
  have hzn : zeros L.length ≤ 63 := by unfold zeros; omega
  have hb0 : Below w.heap.size w (w.alloc (.cells (w8s (List.replicate 32 0)) 47)) := (Below.refl _ _).alloc (by simp) _
  have hA0 : Ab (w.alloc (.cells (w8s (List.replicate 32 0)) 47)) w.heap.size 47 (List.replicate 32 0) := heap_alloc_last _ _
  have hs0 : (w.alloc (.cells (w8s (List.replicate 32 0)) 47)).heap.size = w.heap.size + 1 := by simp
  have hr1 := sl_below (sl_below hr hb0) ((Below.refl _ (w.alloc (.cells (w8s (List.replicate 32 0)) 47))).alloc (Nat.le_refl _) (.cells #[] 5))
  go_enter Try.func28, Try.ntmps28
  go_upto_region 1 with fail
  change Code.wp _ _ _ _ (w.alloc (.cells (w8s (List.replicate 32 0)) 47))
  generalize w.alloc (.cells (w8s (List.replicate 32 0)) 47) = W0 at *
  have HR1 := Lib.hid hr1
  have HB0 := Lib.hid hb0
  have HA0 := Lib.hid hA0
  have HS0 := Lib.hid hs0
  have H8 := Lib.hid h8
  clear hr1 hr hb0 hA0 hs0 h8
  go_wp2_with (first
    | (at_builtin; refine append_src rfl (.tmp 10) (.tmp 11) 48 rfl W0.heap.size i0 Try.underlying48 HI.out HZ0.out HZ1.out HZ2.out _ 0 [] rfl (own_empty W0) a L.length c L rfl rfl HR1.out (by omega) (by simp) ?_; intro v1 w1 ho1 hg1; have hb1 := after_append (w0 := W0) (Nat.le_refl _) (by simp) (own_empty W0) ((Below.refl _ W0).alloc (Nat.le_refl _) _) hg1; clear hg1)
    | (at_builtin; refine append_src rfl (.tmp 12) (.tmp 13) 48 rfl W0.heap.size i0 Try.underlying48 HI.out HZ0.out HZ1.out HZ2.out _ (0 + L.length) _ rfl (ho1.alloc _) (some ⟨w1.heap.size, 0, none⟩) 1 1 [128] rfl rfl (sl_one _ _ _) (by omega) (by have := hb1.size; simp; omega) ?_; intro v2 w2 ho2 hg2; have hb2 := after_append (Nat.le_refl _) (hb1.alloc hb1.size _).size (ho1.alloc _) (hb1.alloc hb1.size _) hg2; clear hg2))
  have hO2 : Own w2 W0.heap.size v2 (L ++ [128]) := by
    unfold Own
    simpa using ho2
  clear ho1 ho2 hb1 HR1
  go_loopg [3] (zeros L.length) (fun g s3 wx => ∃ z : Nat, z ≤ zeros L.length ∧ Own wx W0.heap.size s3 (L ++ [128] ++ List.replicate z 0) ∧ Below W0.heap.size W0 wx ∧ zeros L.length - z = g)
  case atStart => exact ⟨0, by omega, by simpa using hO2, hb2, rfl⟩
  case round =>
    clear hO2 hb2 w2
    obtain ⟨z, hz, hO, hb, hgk⟩ := hrel
    obtain ⟨a3, c3, rfl, -, -⟩ := hO.sl
    have hl : (L ++ [128] ++ List.replicate z 0).length = L.length + 1 + z := by simp; omega
    have hsz := hb.size
    by_cases hlt : z < zeros L.length
    · have ht : ¬ ((L.length + 1 + z : Nat) : Int) % 64 = 56 := by unfold zeros at hlt; omega
      have hO' : wr.ownsRow W0.heap.size 5 1 (.slice a3 (L.length + 1 + z) c3) (L.length + 1 + z) ((L ++ [128] ++ List.replicate z 0).map (Value.int .u8)) := by
        unfold Own at hO
        rwa [hl] at hO
      rw [hl]
      have HL : Hid (∀ (v : Value) (w' : World), w'.ownsRow W0.heap.size 5 1 v (L.length + 1 + z + 1) ((L ++ [128] ++ List.replicate z 0).map (Value.int .u8) ++ [0].map (Value.int .u8)) → Own w' W0.heap.size v (L ++ [128] ++ List.replicate (z + 1) 0)) := Lib.hid (by
        intro v w' h
        unfold Own
        have e : (L ++ [128] ++ List.replicate (z + 1) (0 : Int)).length = L.length + 1 + z + 1 := by simp; omega
        have e2 : L ++ [128] ++ List.replicate (z + 1) (0 : Int) = (L ++ [128] ++ List.replicate z 0) ++ [0] := by rw [List.replicate_succ', List.append_assoc, List.append_assoc, List.append_assoc]
        rw [e, e2, List.map_append (l₂ := [0])]
        exact h)
      have HLT := Lib.hid hlt
      have hq : L.length + 1 + z ≤ 1000000 := by omega
      clear hO hlt hl
      generalize (L ++ [128] ++ List.replicate z 0).map (Value.int .u8) = xs at *
      generalize hqq : L.length + 1 + z = q at *
      clear hqq
      go_wp2_with (at_builtin; refine append_src rfl _ _ 48 rfl W0.heap.size i0 Try.underlying48 HI.out HZ0.out HZ1.out HZ2.out _ q _ rfl (hO'.alloc _) (some ⟨wr.heap.size, 0, none⟩) 1 1 [0] rfl rfl (sl_one _ _ _) (by omega) (by simp; omega) ?_; intro v3 w3 ho3 hg3; have hb3 := after_append (Nat.le_refl _) (hb.alloc hsz _).size (hO'.alloc _) (hb.alloc hsz _) hg3; clear hg3; have HO3 := Lib.hid (HL.out _ _ ho3); clear ho3)
      go_roundg (zeros L.length - (z + 1))
      case measure => have := HLT.out; omega
      case rel => exact ⟨z + 1, by have := HLT.out; omega, HO3.out, hb3, rfl⟩
    · have ht : ((L.length + 1 + z : Nat) : Int) % 64 = 56 := by unfold zeros at hlt hz; omega
      have hzz : z = zeros L.length := by omega
      have hO' : Own wr W0.heap.size (.slice a3 (L.length + 1 + z) c3) (L ++ [128] ++ List.replicate (zeros L.length) 0) := by
        rw [← hzz]
        rwa [hl] at hO
      rw [hl]
      have hq : L.length + 1 + z ≤ 1000000 := by omega
      have hP : (L ++ [128] ++ List.replicate (zeros L.length) 0).length = L.length + 1 + z := by rw [← hzz]; exact hl
      have HPD : Hid (∀ j, j = 8 → (L ++ [128] ++ List.replicate (zeros L.length) 0) ++ (lenBytes ((L.length : Int) * 8)).take j = padded L) := Lib.hid (by
        intro j hj
        rw [hj, show (lenBytes ((L.length : Int) * 8)).take 8 = lenBytes ((L.length : Int) * 8) from rfl]
        unfold padded
        rw [show (L.length : Int) * 8 % 18446744073709551616 = (L.length : Int) * 8 by omega])
      have HO := Lib.hid hO'
      have HP := Lib.hid hP
      have HZZ := Lib.hid hzz
      clear hO hlt hl hO' hP hzz hgk
      generalize L ++ [128] ++ List.replicate (zeros L.length) 0 = P at *
      generalize hqq : L.length + 1 + z = q at *
      have HQQ := Lib.hid hqq
      clear hqq
      go_upto_region 4 with fail
      generalize hln : L.length = ln at *
      have HLN := Lib.hid hln
      clear hln
      go_wp2_with fail
      have hB := Lib.hid hb
      clear hb hsz ht
      go_loopg [3, 5] 8 (fun g s3 s5 wx => ∃ j : Nat, j ≤ 8 ∧ s5 = .int .i64 (7 - (j : Int)) ∧ Own wx W0.heap.size s3 (P ++ (lenBytes ((ln : Int) * 8)).take j) ∧ Below W0.heap.size W0 wx ∧ 8 - j = g)
      case atStart =>
        refine ⟨0, by omega, by rfl, ?_, hB.out, rfl⟩
        rw [List.take_zero, List.append_nil]
        exact HO.out
      case round =>
        clear HO hB
        obtain ⟨j, hj, rfl, hO, hb, hgk⟩ := hrel
        obtain ⟨a3, c3, rfl, -, -⟩ := hO.sl
        have hl : (P ++ (lenBytes ((ln : Int) * 8)).take j).length = q + j := by rw [List.length_append, HP.out, List.length_take, lenBytes_len]; omega
        have hsz := hb.size
        by_cases hlt : j < 8
        · have hO' : wr.ownsRow W0.heap.size 5 1 (.slice a3 (q + j) c3) (q + j) ((P ++ (lenBytes ((ln : Int) * 8)).take j).map (Value.int .u8)) := by
            unfold Own at hO
            rwa [hl] at hO
          rw [hl]
          have HL : Hid (∀ (v : Value) (w' : World), w'.ownsRow W0.heap.size 5 1 v (q + j + 1) ((P ++ (lenBytes ((ln : Int) * 8)).take j).map (Value.int .u8) ++ [(ln : Int) * 8 / 2 ^ (56 - 8 * j) % 256].map (Value.int .u8)) → Own w' W0.heap.size v (P ++ (lenBytes ((ln : Int) * 8)).take (j + 1))) := Lib.hid (by
            intro v w' h
            unfold Own
            have e : (P ++ (lenBytes ((ln : Int) * 8)).take (j + 1)).length = q + j + 1 := by rw [List.length_append, HP.out, List.length_take, lenBytes_len]; omega
            rw [e, lenBytes_next _ _ hlt, ← List.append_assoc, List.map_append (l₂ := [_])]
            exact h)
          have hs : 8 * (7 - (j : Int)) = ((56 - 8 * j : Nat) : Int) := by omega
          have hm64 : 56 - 8 * j ≤ 64 := by omega
          have HJ : Hid (7 - ((j + 1 : Nat) : Int) = 7 - (j : Int) - 1) := Lib.hid (by omega)
          have hqj : q + j ≤ 1000008 := by omega
          clear hO hl
          generalize (P ++ (lenBytes ((ln : Int) * 8)).take j).map (Value.int .u8) = xs at *
          generalize hmm : 56 - 8 * j = m at *
          clear hmm
          have e1 := fun x => shr64 x m hm64
          generalize hqq : q + j = r at *
          clear hqq
          go_wp2_with (at_builtin; refine append_src rfl _ _ 48 rfl W0.heap.size i0 Try.underlying48 HI.out HZ0.out HZ1.out HZ2.out _ r _ rfl (hO'.alloc _) (some ⟨wr.heap.size, 0, none⟩) 1 1 [(ln : Int) * 8 / 2 ^ m % 256] rfl rfl (sl_one _ _ _) (by omega) (by simp; omega) ?_; intro v3 w3 ho3 hg3; have hb3 := after_append (Nat.le_refl _) (hb.alloc hsz _).size (hO'.alloc _) (hb.alloc hsz _) hg3; clear hg3; have HO3 := Lib.hid (HL.out _ _ ho3); clear ho3)
          go_roundg (8 - (j + 1))
          case measure => omega
          case rel => exact ⟨j + 1, by omega, by rw [HJ.out], HO3.out, hb3, rfl⟩
        · obtain ⟨mm, hmm⟩ : ∃ mm, mm = padded L := ⟨_, rfl⟩
          rw [HPD.out j (by omega), ← hmm] at hO
          have hpl := padded_len L
          rw [← hmm] at hpl
          have h8m : ∀ x, x ∈ mm → W8 x := by rw [hmm]; exact padded_bytes L H8.out
          rw [HPD.out j (by omega), ← hmm]
          obtain ⟨gm, hgm, hgm1, hgm2⟩ := own_at hO (by rw [hpl.1]; omega)
          subst hgm
          obtain ⟨a9, c9, e9, hsl, hcap⟩ := hO.sl
          obtain ⟨rfl, -, rfl⟩ : some ⟨gm, 0, none⟩ = a9 ∧ mm.length = mm.length ∧ c3 = c9 := by simpa using e9
          have hby : Byt wr gm 0 mm := fun k hk => by
            obtain ⟨b, off, e, -, hc⟩ := sl_at hsl hk
            obtain ⟨rfl, rfl⟩ : gm = b ∧ 0 = off := by simpa using e
            exact hc
          have hz0 : Ab wr w.heap.size 47 (List.replicate 32 0) := HA0.out.below (by rw [HS0.out]; omega) hb
          have hbw : Below w.heap.size w wr := HB0.out.trans (hb.mono (by rw [HS0.out]; omega))
          have hml : mm.length ≤ 500000 := by rw [hpl.1, HLN.out]; omega
          have hmT : mm.length = 64 * (mm.length / 64) := by omega
          have hgw : w.heap.size < gm := by have := HS0.out; omega
          have HMM := Lib.hid hmm
          have H8M := Lib.hid h8m
          clear hO hl e9 hsl hmm h8m hpl hb hgm1 HPD HP HQQ HZZ
          go_upto_region 9 with fail
          apply wp_region_lit
          refine run_to rfl (some 38) rfl (.agg (w32s h0s)) wr (by kernel_rfl) ?_
          refine run_to rfl (some 6) rfl (.pointer (some ⟨wr.heap.size, 0, none⟩)) (wr.alloc (.cells (List.replicate 8 (.int .u32 0)).toArray 66)) (by kernel_rfl) ?_
          apply wpList_store_new (w := wr) (ty := 66) (x := .tmp 6) (y := .tmp 38) (c := (List.replicate 8 (.int .u32 0)).toArray) (c' := w32s h0s)
          case hgd => rfl
          case ho => rfl
          case hx => kernel_rfl
          case hy => kernel_rfl
          case hi => kernel_rfl
          case hz => rfl
          case h1 => exact one_w32s _
          apply wpList_nil
          have hbn := (Below.refl wr.heap.size wr).alloc (Nat.le_refl _) (.cells (w32s h0s) 66)
          have hH : Arr (wr.alloc (.cells (w32s h0s) 66)) wr.heap.size 66 (states mm 0) := heap_alloc_last _ _
          have hby1 := hby.below hgm2 hbn
          have hz1 := hz0.alloc (.cells (w32s h0s) 66)
          have hbw1 := hbw.alloc hbw.size (.cells (w32s h0s) 66)
          clear hby hz0 hbw hbn hsz
          generalize wr.alloc (.cells (w32s h0s) 66) = V at *
          generalize wr.heap.size = gh at *
          clear wr
          generalize hll : mm.length = ml at *
          have HLL := Lib.hid hll
          clear hll
          generalize hTT : ml / 64 = T at *
          have HTT := Lib.hid hTT
          have HMT := Lib.hid hmT
          clear hTT hmT
          go_wp2_with fail
          go_loopg [7] T (fun g s7 wx => ∃ t : Nat, t ≤ T ∧ s7 = .int .i64 ((64 * t : Nat) : Int) ∧ Arr wx gh 66 (states mm t) ∧ Byt wx gm 0 mm ∧ Ab wx w.heap.size 47 (List.replicate 32 0) ∧ Below w.heap.size w wx ∧ T - t = g)
          case atStart => exact ⟨0, by omega, by rfl, hH, hby1, hz1, hbw1, rfl⟩
          case round =>
            clear hH hby1 hz1 hbw1 V
            obtain ⟨t, ht, rfl, hH, hby, hz, hbw, hgt⟩ := hrel
            by_cases hlt3 : t < T
            · have hs8 := states_len mm t
              have htl : 64 * t + 64 ≤ ml := by have := HMT.out; omega
              have hti : ((64 * t : Nat) : Int) < (ml : Int) := by omega
              have hco : 64 * t + 64 ≤ c3 := by omega
              have HNX : Hid (64 * (t + 1) = 64 * t + 64) := Lib.hid rfl
              have HST : Hid (states mm (t + 1) = blk (states mm t) ((mm.drop (64 * t)).take 64)) := Lib.hid rfl
              have HPT : Hid (∀ w', Byt w' gm 0 mm → Byt w' gm (64 * t) ((mm.drop (64 * t)).take 64)) := Lib.hid (fun w' h => h.part _ _ (by rw [HLL.out]; omega))
              have HPL : Hid (((mm.drop (64 * t)).take 64).length = 64) := Lib.hid (by simp [HLL.out]; omega)
              have HP8 : Hid (∀ x, x ∈ (mm.drop (64 * t)).take 64 → W8 x) := Lib.hid (fun x hx => H8M.out x (List.mem_of_mem_drop (List.mem_of_mem_take hx)))
              generalize (mm.drop (64 * t)).take 64 = Bk at *
              generalize hoo : 64 * t = o at *
              have HOO := Lib.hid hoo
              clear hoo
              have HH := Lib.hid hH
              have HBY := Lib.hid hby
              have HZ := Lib.hid hz
              have HBW := Lib.hid hbw
              clear hH hby hz hbw
              go_upto_region 13 with fail
              refine wp_region_class_tail (C := fun w' => Arr w' gh 66 (states mm t) ∧ Byt w' gm 0 mm ∧ Ab w' w.heap.size 47 (List.replicate 32 0) ∧ Below w.heap.size w w') 7 (by kernel_rfl) (by kernel_rfl) ⟨HH.out, HBY.out, HZ.out, HBW.out.drew⟩ ?_
              simp only [List.take_succ_cons, List.take_zero, List.drop_succ_cons, List.drop_zero]
              refine wpQ_load rfl 66 (.tmp 6) rfl ⟨gh, 0, none⟩ (.agg (w32s (states mm t))) (by kernel_rfl) (fun w' hC => loadArr hC.1 hs8) ?_
              refine wpQ_val rfl (.slice (some ⟨gm, 0, none⟩) ml c3) (fun w' _ => by kernel_rfl) ?_
              refine wpQ_val rfl (.int .i64 o) (fun w' _ => by kernel_rfl) ?_
              refine wpQ_val rfl (.int .i64 o) (fun w' _ => by kernel_rfl) ?_
              obtain ⟨p, hp⟩ : ∃ p, p = o + 64 := ⟨_, rfl⟩
              refine wpQ_val rfl (.int .i64 p) (fun w' _ => by go_simp; rw [IntKind.wrap_i64]; omega) ?_
              refine wpQ_slice rfl 48 (.tmp 46) (.tmp 47) (.tmp 49) rfl (.slice (some ⟨gm, 0, none⟩) ml c3) (.int .i64 o) (.int .i64 p) (.slice (some ⟨gm, o, none⟩) 64 (c3 - o)) (by kernel_rfl) (by kernel_rfl) (by kernel_rfl)
                (fun w' _ => by have e := slice_mid gm ml c3 o p w' (by omega) (by omega) (by omega); rw [show p - o = 64 by omega] at e; exact e) ?_
              refine wpQ_call rfl 34 #[.agg (w32s (states mm t)), .slice (some ⟨gm, o, none⟩) 64 (c3 - o)] (.agg (w32s (blk (states mm t) Bk))) (fun w' _ => by kernel_rfl)
                (fun w' hC => (block_any (states mm t) Bk gm o (c3 - o) w' hs8 HPL.out (HPT.out w' hC.2.1) HP8.out (by have := hC.1.lt; omega)).mono fun e w'' ⟨he, hb⟩ =>
                  ⟨he, hC.1.below hC.1.lt hb, hC.2.1.below (by have := hC.1.lt; omega) hb, hC.2.2.1.below hC.2.2.1.lt hb, hC.2.2.2.trans (hb.mono hC.2.2.2.size)⟩) ?_
              refine wpQuiet_nil ?_
              intro w' hC
              have hq8 : (w32s (blk (states mm t) Bk)).size = 8 := by simp [blk_len _ _ hs8]
              have hq8' : (w32s (states mm t)).size = 8 := by simp [hs8]
              apply wpList_store_at (ty := 66) (x := .tmp 6) (y := .tmp 51) (g := gh) (c := w32s (states mm t)) (c' := w32s (blk (states mm t) Bk))
              case hgd => rfl
              case ho => rfl
              case hx => kernel_rfl
              case hy => kernel_rfl
              case hg => exact hC.1
              case hi => rw [hq8]; kernel_rfl
              case hz => rw [hq8, hq8']
              case h1 => exact one_w32s _
              apply wpList_nil
              have hH2 : Arr (w'.setRow gh (w32s (blk (states mm t) Bk))) gh 66 (blk (states mm t) Bk) := setRow_heap _ _ _ _ _ _ hC.1
              have hO : ∀ k, k ≠ gh → (w'.setRow gh (w32s (blk (states mm t) Bk))).heap[k]? = w'.heap[k]? := fun k hk => setRow_other w' gh k _ hk
              have hby2 : Byt (w'.setRow gh (w32s (blk (states mm t) Bk))) gm 0 mm := fun k hk => by
                have := hC.2.1 k hk
                unfold World.cell? at this ⊢
                rw [hO gm (by omega)]
                exact this
              have hz2 : Ab (w'.setRow gh (w32s (blk (states mm t) Bk))) w.heap.size 47 (List.replicate 32 0) := by
                have := hC.2.2.1
                unfold Ab at this ⊢
                rw [hO _ (by omega)]
                exact this
              have hw2 := belowRow hC.2.2.2 (by omega : w.heap.size ≤ gh) (w32s (blk (states mm t) Bk))
              have HH2 := Lib.hid hH2
              have HBY2 := Lib.hid hby2
              have HZ2' := Lib.hid hz2
              have HW2 := Lib.hid hw2
              clear hH2 hby2 hz2 hw2 hC hO hq8 hq8' hs8
              generalize w'.setRow gh (w32s (blk (states mm t) Bk)) = V at *
              go_wp2_with fail
              go_roundg (T - (t + 1))
              case measure => omega
              case rel => exact ⟨t + 1, by omega, by rw [HNX.out]; rfl, by rw [HST.out]; exact HH2.out, HBY2.out, HZ2'.out, HW2.out, rfl⟩
            · have htT : t = T := by omega
              have hti : ¬ ((64 * t : Nat) : Int) < (ml : Int) := by have := HMT.out; omega
              rw [htT] at hH
              have HTO := Lib.hid htT
              clear htT hlt3 ht hgt
              generalize 64 * t = o at *
              have hsh : Hid (∀ i, i = 32 → outs (states mm T) i = shaL L) := Lib.hid (fun i hi => by
                rw [hi]
                unfold shaL
                rw [← HMM.out, HLL.out, HTT.out])
              have hs8 := states_len mm T
              generalize states mm T = H2 at *
              have HH := Lib.hid hH
              have HZ := Lib.hid hz
              have HBW := Lib.hid hbw
              have hgh := hH.lt
              clear hH hz hbw hby
              go_upto_region 15 with fail
              have hA : Ab (wr.alloc (.cells (w8s (List.replicate 32 0)) 47)) wr.heap.size 47 (outs H2 0 ++ List.replicate (32 - 0) 0) := heap_alloc_last _ _
              have hH4 := HH.out.alloc (.cells (w8s (List.replicate 32 0)) 47)
              have hz4 := HZ.out.alloc (.cells (w8s (List.replicate 32 0)) 47)
              have hb4 := HBW.out.alloc HBW.out.size (.cells (w8s (List.replicate 32 0)) 47)
              have hsz4 := HBW.out.size
              have hlz := HZ.out.lt
              change Code.wp _ _ _ _ (wr.alloc (.cells (w8s (List.replicate 32 0)) 47))
              clear HH HZ HBW
              generalize wr.alloc (.cells (w8s (List.replicate 32 0)) 47) = V at *
              generalize wr.heap.size = kb at *
              clear wr
              go_wp2_with fail
              go_loopg [52] 32 (fun g s52 wx => ∃ i : Nat, i ≤ 32 ∧ s52 = .int .i64 i ∧ Arr wx gh 66 H2 ∧ Ab wx kb 47 (outs H2 i ++ List.replicate (32 - i) 0) ∧ Ab wx w.heap.size 47 (List.replicate 32 0) ∧ Below w.heap.size w wx ∧ 32 - i = g)
              case atStart => exact ⟨0, by omega, by go_num, hH4, hA, hz4, hb4, rfl⟩
              case round =>
                clear hH4 hA hz4 hb4 V
                obtain ⟨i, hi, rfl, hH, hA, hz, hbw, hg4⟩ := hrel
                by_cases hlt4 : i < 32
                · have hl : (outs H2 i ++ List.replicate (32 - i) 0).length = 32 := by simp [outs_len]; omega
                  have x0 := hH.cell (i / 4) (by omega)
                  have xz := hA.cell i (by omega)
                  have xf := hA.frozen i
                  have hset := outs_set H2 i hlt4
                  have HOB : Hid (outByte H2 i = H2.getD (i / 4) 0 / 2 ^ (24 - i % 4 * 8) % 256) := Lib.hid rfl
                  rw [HOB.out] at hset
                  have HSET := Lib.hid hset
                  have HH := Lib.hid hH
                  have HA := Lib.hid hA
                  have HZ := Lib.hid hz
                  have HBW := Lib.hid hbw
                  clear hset hH hA hz hbw hl hs8 HOB
                  generalize H2.getD (i / 4) 0 = h at *
                  generalize (outs H2 i ++ List.replicate (32 - i) 0).getD i 0 = z at *
                  have q1 : (i : Int).tdiv 4 = ((i / 4 : Nat) : Int) := by simp
                  have q2 : ((i / 4 : Nat) : Int) < 8 := by omega
                  have q3 : IntKind.i64.wrap ((i / 4 : Nat) : Int) = ((i / 4 : Nat) : Int) := by rw [IntKind.wrap_i64]; omega
                  have hs : 24 - (i : Int) % 4 * 8 = ((24 - i % 4 * 8 : Nat) : Int) := by omega
                  have hm32 : 24 - i % 4 * 8 ≤ 32 := by omega
                  generalize i / 4 = k at *
                  generalize hmm2 : 24 - i % 4 * 8 = m at *
                  clear hmm2
                  have e1 := fun x => shr32 x m hm32
                  go_wp2_with fail
                  have NA := HA.out.set i (h / 2 ^ m % 256)
                  rw [HSET.out] at NA
                  go_roundg (32 - (i + 1))
                  case measure => omega
                  case rel => exact ⟨i + 1, by omega, by go_num, HH.out.far _ (by simp; omega) _, NA, HZ.out.far _ (by simp; omega) _, HBW.out.setCell (by simp; omega) _, rfl⟩
                · have hsh2 : outs H2 i ++ List.replicate (32 - i) 0 = shaL L := by
                    rw [show 32 - i = 0 by omega, List.replicate_zero, List.append_nil]
                    exact hsh.out i (by omega)
                  obtain ⟨S, hS⟩ : ∃ S, S = shaL L := ⟨_, rfl⟩
                  have hl : S.length = 32 := by rw [hS]; exact outs_len _ _
                  rw [hsh2, ← hS] at hA
                  have HSS := Lib.hid hS
                  have HZ := Lib.hid hz
                  have HA := Lib.hid hA
                  have HW := Lib.hid hbw
                  have HL := Lib.hid hl
                  clear hz hA hbw hl hsh2 hS hH
                  go_upto_region 20 with fail
                  have hq32 : (w8s S).size = 32 := by simp [HL.out]
                  apply wp_region_lit
                  apply wpList_load_row (ty := 47) (x := .tmp 8) (g := kb) (t := 47) (cs := w8s S) (fr := (0, 0)) (d := .array 32 5)
                  case hgd => rfl
                  case ho => rfl
                  case hx => kernel_rfl
                  case hg => exact HA.out
                  case hu => kernel_rfl
                  case hd => rfl
                  case hi => rw [hq32]; kernel_rfl
                  apply wpList_store_at (ty := 47) (x := .tmp 2) (y := .tmp 68) (g := w.heap.size) (c := w8s (List.replicate 32 0)) (c' := w8s S)
                  case hgd => rfl
                  case ho => rfl
                  case hx => kernel_rfl
                  case hy => kernel_rfl
                  case hg => exact HZ.out
                  case hi => rw [hq32]; kernel_rfl
                  case hz => rw [hq32]; rfl
                  case h1 => exact one_w8s _
                  apply wpList_nil
                  go_wp2_with fail
                  refine bodyPost_ret (v := .agg (w8s S)) ?_ rfl ⟨by rw [HSS.out], belowRow HW.out (Nat.le_refl _) _⟩
                  refine results_cell_row (fn := Try.f28) (p := 2) (ty := 47) rfl _ _ w.heap.size 47 (w8s S) (0, 0) (.array 32 5) rfl (setRow_heap _ _ _ _ _ _ HZ.out) ?_ rfl ?_
                  · kernel_rfl
                  · rw [hq32]; kernel_rfl
end Go.Proofs.Ytgkckblcekbafaa
