/-
 The walk of ConfigLimits.
-/
import Derived.Test.YtplfineaomneiaaDoorPZ
namespace Go.Proofs.YtplfineaomneiaaDoor
attribute [local irreducible] wpList wpQuiet
open Go.RowKit
set_option maxRecDepth 100000
set_option linter.unusedSimpArgs false
set_option linter.unusedVariables false

theorem gw_make {P : Program} {ops : Array Oper} {rest : List Oper} {o : Oper} {a : Act} {w : World} {Q : Exit → Act → World → Prop} (hw : Region.wanted o (yielded ops a.tmps) = true) (d : Option Tmp) (hd : o.dst = d) (t : TypeId) (x y : Operand) (ho : o.op = .makeSlice t x y)
  (vx vy v : Value) (hx : a.eval x = vx) (hy : a.eval y = vy) (w2 : World) (hr : (Instr.makeSlice t vx vy).run P w = .ok v w2) (k : wpList P ops Q rest (a.put d v) w2) : wpList P ops Q (o :: rest) a w := by
 refine gw_new hw d hd v w2 ?_ k
 unfold execOp
 simp only [ho, hx, hy, Sem.run_bind, hr]
 rfl
/-- A new box that is written at once. -/
theorem infoB : (Tryd.prog.info? 5).map (fun i => (i.zero, i.size, i.bytes)) = some (some (.int .u8 0), 1, 1) := by kernel_rfl
theorem make_u8 (w : World) (n : Nat) (hn : n ≤ 100000) : ∃ cs, (Instr.makeSlice 38 (.int .i64 (n : Int)) (.int .i64 (n : Int))).run Tryd.prog w = .ok (.slice (some ⟨w.heap.size, 0, none⟩) n n) (w.alloc (.cells cs 5)) ∧ cs.size = n := by
 obtain ⟨i0, hi, hz0, hz1, hz2⟩ := info_parts infoB
 have h := run_makeSlice (P := Tryd.prog) w 38 5 i0 _ Tryd.underlying38 hi hz0 .i64 .i64 (n : Int) (n : Int) (by omega) (Int.le_refl _) (by rw [hz1, Int.toNat_natCast]; omega) (by rw [hz2]; omega) (by omega)
 refine ⟨_, h, ?_⟩
 rw [size_madeCells, hz1, Int.toNat_natCast, Nat.mul_one]
theorem idx_b8 (b off n c k : Nat) (hk : k < n) (V : World) (ρ : Operand → Value) (o : Oper) {x y : Operand} (ho : o.op = .indexAddr 38 x y) (hx : ρ x = .slice (some ⟨b, off, none⟩) n c) (hy : ρ y = .int .i64 k) : (execOp ρ o).run Tryd.prog V = .ok (.value (.pointer (some ⟨b, off + k, none⟩))) V := idx_u8 b off n c k hk V ρ o ho hx hy
theorem conv_all {ρ : Operand → Value} {o : Oper} {x : Operand} (ho : o.op = .convert 38 9 x) {w : World} {g n k : Nat} {cs : Array Value} (hX : Bx w g cs k) (hc : ∀ j, j < n → cs[j]? = some (.int .u8 10)) (hx : ρ x = .slice (some ⟨g, 0, none⟩) n n) : (execOp ρ o).run Tryd.prog w = .ok (.value (.string (strOfNums (List.replicate n 10)))) w := by
 have h := run_convert_bytes_arg (P := Tryd.prog) w 38 5 (by kernel_rfl) (by kernel_rfl) g 0 n n (List.replicate n 10) (List.length_replicate ..) (fun i hi => by
  rw [Nat.zero_add, cell_of_row w g i cs k (0, 0) hX, hc i hi, List.getD_eq_getElem?_getD, List.getElem?_replicate, if_pos hi]
  rfl) 9 (by kernel_rfl)
 unfold execOp
 simp only [ho, hx, Sem.run_bind, h]
 rfl
theorem rep_flat (n : Nat) : (List.replicate n [(10 : Int)]).flatten = List.replicate n 10 := by
 induction n with
 | zero => rfl
 | succ n ih => rw [List.replicate_succ, List.flatten_cons, ih]; rfl
theorem rep_split (n : Nat) : splitL [] (List.replicate n 10) = List.replicate (n + 1) [] := by
 induction n with
 | zero => rfl
 | succ n ih => rw [List.replicate_succ, splitL, if_pos rfl, ih]; rfl
theorem rep_par (m : Nat) : ∀ (i : Nat) (c : List Int) (seen : List (List Int)), parL (List.replicate m []) i c seen = if c.getD 11 0 ≤ c.getD 10 0 then (zeroL, 0, 1) else (c, 0, 0) := by
 induction m with
 | zero => intro i c seen; rw [List.replicate_zero, parL]
 | succ m ih =>
  intro i c seen
  rw [List.replicate_succ, parL, show wrd [] 0 [] = [] by rw [wrd_end (Nat.lt_irrefl 0), if_pos rfl]]
  exact ih (i + 1) c seen
theorem rep_w8 (n : Nat) : ∀ x, x ∈ List.replicate n (10 : Int) → W8 x := fun x hx => by
 rw [List.eq_of_mem_replicate hx]
 exact ⟨by omega, by omega⟩
theorem lim_big {n : Nat} (h : 4096 < n) : parV (nums (strOfNums (List.replicate n 10))) = .tuple #[.agg #[.int .i64 0, .int .i64 0, .int .i64 0, .int .i64 0, .int .i64 0, .int .i64 0, .bool false, .int .i64 0, .int .i64 0, .int .u64 0, .int .i64 0, .int .i64 0], .int .i64 0, .int .i64 3] := by
 rw [nums_str _ (rep_w8 n)]
 unfold parV
 rw [parX_lim (by rw [List.length_replicate]; exact h)]
 rfl
theorem lim_ok {n : Nat} (h : n ≤ 4096) : parV (nums (strOfNums (List.replicate n 10))) = .tuple #[.agg (cfA dfltL), .int .i64 0, .int .i64 0] := by
 rw [nums_str _ (rep_w8 n)]
 have hr : runs (List.replicate n 10) 0 ≠ none := by
  have h1 := runs_toks (List.replicate n [(10 : Int)]) (fun r hr => by rw [List.eq_of_mem_replicate hr]; exact tok1 (by decide)) []
  rw [rep_flat] at h1
  exact h1
 have e : parX (List.replicate n 10) = (dfltL, 0, 0) := by
  unfold parX
  rw [if_neg (by rw [List.length_replicate]; omega), if_neg hr, rep_split, rep_par, if_neg (by decide)]
 unfold parV
 rw [e]
 rfl
set_option maxRecDepth 100000 in
set_option maxHeartbeats 8000000 in
theorem limits_core {w : World} (HQ : Prg w) (x : Int) : Calls Tryd.prog 8 #[.int .i64 x] w fun e w' => e = .returned (.bool true) ∧ Below w.heap.size w w' := by
 have hpr := pl_range x 3 (by omega)
 have CP := mk_place x 3 w (by omega) (by omega)
 obtain ⟨p, hp⟩ : ∃ p : Nat, pl x 3 = (p : Int) := ⟨(pl x 3).toNat, by omega⟩
 rw [hp] at CP hpr
 obtain ⟨n, hn⟩ : ∃ n, 4095 + p = n := ⟨_, rfl⟩
 obtain ⟨cs, hmk, hcs⟩ := make_u8 w n (by omega)
 have hXm : Bx (w.alloc (.cells cs 5)) w.heap.size cs 5 := heap_alloc_last w _
 have hbm : Below w.heap.size w (w.alloc (.cells cs 5)) := (Below.refl _ w).alloc (Nat.le_refl _) _
 generalize w.alloc (.cells cs 5) = W1 at *
 have HB1 := Lib.hid hbm
 have hn0 : n ≤ 4097 := by omega
 have hn1 : ((4095 : Int) + p) = (n : Int) := by omega
 obtain ⟨g0, hg0⟩ : ∃ g, w.heap.size = g := ⟨_, rfl⟩
 rw [hg0] at hXm hmk
 have HG : Hid (w.heap.size ≤ g0) := Lib.hid (Nat.le_of_eq hg0)
 have HX0 : Hid (∃ cs, Bx W1 g0 cs 5 ∧ cs.size = n ∧ ∀ j, j < 0 → cs[j]? = some (.int .u8 10)) := Lib.hid ⟨cs, hXm, hcs, fun j hj => absurd hj (Nat.not_lt_zero j)⟩
 clear hp hpr hn hbm hXm hcs hg0
 go_enter Tryd.func8, Tryd.ntmps8
 go_upto_region 1 with fail
 refine wl <| gz1 (.int .i64 x) <| gzc (.int .i64 p) (fun w' => w = w') (CP) (fun V9 hV9 => ?_)
 subst hV9
 simp only [pu]
 refine gzv (.int .i64 n) ((by rw [← hn1]; exact add_i rfl 4095 p (by omega) (by kernel_rfl) (by kernel_rfl) _)) ?_
 simp only [pu]
 refine gw_make (by kernel_rfl) (some 11) rfl 38 (.tmp 10) (.tmp 10) rfl (.int .i64 n) (.int .i64 n) (.slice (some ⟨g0, 0, none⟩) n n) (by kernel_rfl) (by kernel_rfl) _ hmk ?_
 simp only [pu]
 refine gz1 (.slice (some ⟨g0, 0, none⟩) n n) <| wn ?_
 simp only [pu]
 clear CP hmk hn1 cs
 go_upto_region 2 with fail
 refine wl <| gz3 (.slice (some ⟨g0, 0, none⟩) n n) (.int .i64 n) (.int .i64 0) <| wn ?_
 simp only [pu]
 go_wp2_with fail
 go_loopg [14] n (fun gg s14 wx => ∃ (i : Nat), s14 = .int .i64 i ∧ i ≤ n ∧ gg + i = n ∧ Hid (∃ cs, Bx wx g0 cs 5 ∧ cs.size = n ∧ ∀ j, j < i → cs[j]? = some (.int .u8 10)) ∧ Hid (Below w.heap.size w wx))
 case atStart => exact ⟨0, rfl, by omega, by omega, HX0, HB1⟩
 case round =>
  obtain ⟨i, hs14, hin, hg, HX, HR⟩ := hrel
  obtain rfl := hs14
  have HGK : Hid (gk + i = n) := Lib.hid hg
  obtain ⟨cs, hX, hcs, hjs⟩ := HX.out
  clear hg HX0 HX
  by_cases hlt : i < n
  ·skip
   obtain ⟨V2, hst2, hY, hbt⟩ := st_fld (i := i) (v := .int .u8 10) (ty := 5) _ hX (by omega) rfl rfl (by kernel_rfl)
   have HX2 : Hid (∃ cs, Bx V2 g0 cs 5 ∧ cs.size = n ∧ ∀ j, j < i + 1 → cs[j]? = some (.int .u8 10)) := Lib.hid ⟨_, hY, by rw [Array.size_setIfInBounds]; exact hcs, fun j hj => by
    rw [Array.getElem?_setIfInBounds]
    by_cases e : i = j
    ·rw [if_pos e, if_pos (by omega)]
    ·rw [if_neg e]; exact hjs j (by omega)⟩
   have HR2 := Lib.hid (HR.out.trans (hbt.1.mono HG.out))
   clear hY hbt hX hcs hjs
   go_upto_region 3 with fail
   refine wl <| gzb (lss_n rfl (i) (n) dT) <| wn ?_
   simp only [pu]
   go_upto_region 4 with fail
   refine wl <| gz2 (.int .i64 i) (.int .i64 i) <| wn ?_
   simp only [pu]
   have hst3 : (Instr.storeAt 5 (.pointer (some ⟨g0, 0 + i, none⟩)) (.int .u8 10)).run Tryd.prog wr = .ok () V2 := by rw [Nat.zero_add]; exact hst2
   clear hst2
   go_upto_region 5 with fail
   refine wl <| gz2 (.slice (some ⟨g0, 0, none⟩) n n) (.int .i64 i) <| gzv (.pointer (some ⟨g0, 0 + i, none⟩)) (idx_b8 g0 0 n n i hlt _ _ _ rfl (by kernel_rfl) (by kernel_rfl)) <| gzs rfl (hst3) <| wn ?_
   simp only [pu]
   clear hst3
   go_upto_region 6 with fail
   refine wl <| gzv (.int .i64 (i + 1 : Nat)) (add_one rfl i (by omega) (by kernel_rfl) _) <| gz1 (.int .i64 (i + 1 : Nat)) <| wn ?_
   simp only [pu]
   go_wp2_with fail
   go_roundg (n - (i + 1))
   case measure => have := HGK.out; omega
   case rel => exact ⟨i + 1, rfl, by omega, by omega, HX2, HR2⟩
  ·skip
   obtain rfl : i = n := by omega
   go_upto_region 3 with fail
   refine wl <| gzb (lss_n rfl (i) (i) dF) <| wn ?_
   simp only [pu]
   have hsz : (strOfNums (List.replicate i 10)).size ≤ 1000000 := by rw [strOfNums_size, List.length_replicate]; omega
   have CPR := HQ.p _ hsz wr HR.out
   have hbig := lim_big (n := i)
   have hok := lim_ok (n := i)
   have hcv := fun (ρ : Operand → Value) (o : Oper) (x : Operand) (ho : o.op = .convert 38 9 x) (hx : ρ x = .slice (some ⟨g0, 0, none⟩) i i) => conv_all ho hX hjs hx
   generalize strOfNums (List.replicate i 10) = s at *
   clear hX hcs hjs hsz
   by_cases hlim : 4096 < i
   ·skip
    rw [hbig hlim] at CPR
    have NB := fun V => new_bx (c := #[.int .i64 0, .int .i64 0, .int .i64 0, .int .i64 0, .int .i64 0, .int .i64 0, .bool false, .int .i64 0, .int .i64 0, .int .u64 0, .int .i64 0, .int .i64 0]) (c' := #[.int .i64 0, .int .i64 0, .int .i64 0, .int .i64 0, .int .i64 0, .int .i64 0, .bool false, .int .i64 0, .int .i64 0, .int .u64 0, .int .i64 0, .int .i64 0]) (ty := 24) V rfl (by kernel_rfl) (by kernel_rfl)
    have LX : ∀ V g, Bx V g #[.int .i64 0, .int .i64 0, .int .i64 0, .int .i64 0, .int .i64 0, .int .i64 0, .bool false, .int .i64 0, .int .i64 0, .int .u64 0, .int .i64 0, .int .i64 0] 24 → (Instr.loadAt 24 (.pointer (some ⟨g, 0, none⟩))).run Tryd.prog V = .ok (.agg #[.int .i64 0, .int .i64 0, .int .i64 0, .int .i64 0, .int .i64 0, .int .i64 0, .bool false, .int .i64 0, .int .i64 0, .int .u64 0, .int .i64 0, .int .i64 0]) V := fun V g h => load_C (c := zeroL) h
    clear hbig hok
    go_upto_region 7 with fail
    refine wl <| gz1 (.slice (some ⟨g0, 0, none⟩) i i) <| gzv (.string s) (hcv _ _ _ rfl (by kernel_rfl)) <|
     gzc (.tuple #[.agg #[.int .i64 0, .int .i64 0, .int .i64 0, .int .i64 0, .int .i64 0, .int .i64 0, .bool false, .int .i64 0, .int .i64 0, .int .u64 0, .int .i64 0, .int .i64 0], .int .i64 0, .int .i64 3]) (fun w' => Below wr.heap.size wr w') (CPR) (fun V2 hb2 => ?_)
    obtain ⟨V3, hst3, hb3, hX5⟩ := NB V2
    simp only [pu]
    refine gz4 (.tuple #[.agg #[.int .i64 0, .int .i64 0, .int .i64 0, .int .i64 0, .int .i64 0, .int .i64 0, .bool false, .int .i64 0, .int .i64 0, .int .u64 0, .int .i64 0, .int .i64 0], .int .i64 0, .int .i64 3]) (.agg #[.int .i64 0, .int .i64 0, .int .i64 0, .int .i64 0, .int .i64 0, .int .i64 0, .bool false, .int .i64 0, .int .i64 0, .int .u64 0, .int .i64 0, .int .i64 0]) (.int .i64 0) (.int .i64 3) ?_
    simp only [pu]
    refine run_to rfl (some 5) rfl (.pointer (some ⟨V2.heap.size, 0, none⟩)) (V2.alloc (.cells #[.int .i64 0, .int .i64 0, .int .i64 0, .int .i64 0, .int .i64 0, .int .i64 0, .bool false, .int .i64 0, .int .i64 0, .int .u64 0, .int .i64 0, .int .i64 0] 24)) (by kernel_rfl) ?_
    simp only [pu]
    refine gzs rfl (hst3) <| gz2 (.int .i64 0) (.int .i64 3) <| wn ?_
    simp only [pu]
    have h23 := hb2.trans (hb3.mono hb2.size)
    have HR3 := Lib.hid (HR.out.trans (h23.mono HR.out.size))
    obtain ⟨g5, hg5⟩ : ∃ g, V2.heap.size = g := ⟨_, rfl⟩
    rw [hg5] at hX5
    simp only [hg5]
    clear hst3 hb2 hb3 h23 hg5 CPR NB hcv
    go_upto_region 8 with fail
    refine wl <| gz2 (.slice (some ⟨g0, 0, none⟩) i i) (.int .i64 i) <| gzb (gtr_n rfl i 4096 dT) <| wn ?_
    simp only [pu]
    have hl5 := LX _ _ hX5
    go_upto_region 9 with fail
    refine wl <| gz1 (.int .i64 3) <| gzb (eql_e rfl 3 3 (decide_eq_true rfl)) <| gz2 (.bool true) (.int .i64 0) <| gzb (eql_n rfl 0 0 (decide_eq_true rfl)) <| gz2 (.bool true) (.bool true) <|
     gzl rfl ⟨g5, 0, none⟩ (.agg #[.int .i64 0, .int .i64 0, .int .i64 0, .int .i64 0, .int .i64 0, .int .i64 0, .bool false, .int .i64 0, .int .i64 0, .int .u64 0, .int .i64 0, .int .i64 0]) (hl5) <|
     gz1 (.agg #[.int .i64 0, .int .i64 0, .int .i64 0, .int .i64 0, .int .i64 0, .int .i64 0, .bool false, .int .i64 0, .int .i64 0, .int .u64 0, .int .i64 0, .int .i64 0]) <| gzw (.bool true) (eql_C rfl zeroL) <| gz2 (.bool true) (.bool true) <|
     gzc (.bool true) (fun w' => Below V3.heap.size V3 w') (known_true HQ V3 (HR3.out)) (fun V4 hb4 => ?_)
    simp only [pu]
    refine gz2 (.bool true) (.bool true) <| wn ?_
    simp only [pu]
    have HE := Lib.hid (HR3.out.trans (hb4.mono HR3.out.size))
    clear hl5 LX hX5
    go_wp2_with fail
    go_ret
    exact ⟨rfl, HE.out⟩
   ·skip
    rw [hok (by omega)] at CPR
    have CD := HQ.d
    have LX := lda dfltL
    have NB := fun V => new_bx (c := #[.int .i64 0, .int .i64 0, .int .i64 0, .int .i64 0, .int .i64 0, .int .i64 0, .bool false, .int .i64 0, .int .i64 0, .int .u64 0, .int .i64 0, .int .i64 0]) (c' := cfA dfltL) (ty := 24) V rfl (by kernel_rfl) (by kernel_rfl)
    have EQD := fun (ρ : Operand → Value) (o : Oper) (x y : Operand) (ho : o.op = .binOp .eql 24 x y 24) (hx : ρ x = .agg (cfA dfltL)) (hy : ρ y = .agg (cfA dfltL)) (w : World) => eql_C ho dfltL hx hy w
    generalize cfA dfltL = D0 at *
    clear hbig hok
    go_upto_region 7 with fail
    refine wl <| gz1 (.slice (some ⟨g0, 0, none⟩) i i) <| gzv (.string s) (hcv _ _ _ rfl (by kernel_rfl)) <| gzc (.tuple #[.agg D0, .int .i64 0, .int .i64 0]) (fun w' => Below wr.heap.size wr w') (CPR) (fun V2 hb2 => ?_)
    obtain ⟨V3, hst3, hb3, hX5⟩ := NB V2
    simp only [pu]
    refine gz4 (.tuple #[.agg D0, .int .i64 0, .int .i64 0]) (.agg D0) (.int .i64 0) (.int .i64 0) ?_
    simp only [pu]
    refine run_to rfl (some 5) rfl (.pointer (some ⟨V2.heap.size, 0, none⟩)) (V2.alloc (.cells #[.int .i64 0, .int .i64 0, .int .i64 0, .int .i64 0, .int .i64 0, .int .i64 0, .bool false, .int .i64 0, .int .i64 0, .int .u64 0, .int .i64 0, .int .i64 0] 24)) (by kernel_rfl) ?_
    simp only [pu]
    refine gzs rfl (hst3) <| gz2 (.int .i64 0) (.int .i64 0) <| wn ?_
    simp only [pu]
    have h23 := hb2.trans (hb3.mono hb2.size)
    have HR3 := Lib.hid (HR.out.trans (h23.mono HR.out.size))
    obtain ⟨g5, hg5⟩ : ∃ g, V2.heap.size = g := ⟨_, rfl⟩
    rw [hg5] at hX5
    simp only [hg5]
    clear hst3 hb2 hb3 h23 hg5 CPR NB hcv
    go_upto_region 8 with fail
    refine wl <| gz2 (.slice (some ⟨g0, 0, none⟩) i i) (.int .i64 i) <| gzb (gtr_n rfl i 4096 dF) <| wn ?_
    simp only [pu]
    have CKN := fun V (hV : Below V3.heap.size V3 V) => known_true HQ V (HR3.out.trans (hV.mono HR3.out.size))
    go_upto_region 10 with fail
    refine wp_region_class (C := fun U => Below V3.heap.size V3 U) (by kernel_rfl) (by kernel_rfl) ((Below.refl _ V3).drew) ?_
    refine gy (.int .i64 0) <| gyv (.bool true) (fun U hU => eql_e rfl 0 0 (decide_eq_true rfl) (by kernel_rfl) (by kernel_rfl) U) <| gy (.bool true) <| gy (.int .i64 0) <| gyv (.bool true) (fun U hU => eql_n rfl 0 0 (decide_eq_true rfl) (by kernel_rfl) (by kernel_rfl) U) <| gy (.bool true) <|
      gy (.bool true) <| gyl rfl ⟨g5, 0, none⟩ (.agg D0) (fun U hU => LX _ _ (hX5.below hX5.lt hU)) ?_
    simp only [pu]
    refine gq_call (by kernel_rfl) (some 53) rfl 14 #[] (.agg D0) (fun U hU => by kernel_rfl) (fun U hU => (CD U).mono fun e w2 z => ⟨z.1, hU.trans (z.2.mono hU.size)⟩) ?_
    simp only [pu]
    refine gyv (.bool true) (fun U hU => EQD _ _ _ _ rfl (by kernel_rfl) (by kernel_rfl) U) <| gy (.bool true) <| gy (.bool true) ?_
    simp only [pu]
    refine gq_call (by kernel_rfl) (some 57) rfl 10 #[] (.bool true) (fun U hU => by kernel_rfl) (fun U hU => (CKN U hU).mono fun e w2 z => ⟨z.1, hU.trans (z.2.mono hU.size)⟩) ?_
    simp only [pu]
    refine gy (.bool true) <| gy (.bool true) ?_
    simp only [pu]
    apply wpQuiet_nil
    intro V4 hV4
    have HE := Lib.hid (HR3.out.trans (hV4.mono HR3.out.size))
    clear hV4
    go_wp2_with fail
    go_ret
    exact ⟨rfl, HE.out⟩
end Go.Proofs.YtplfineaomneiaaDoor
