/-
 Answers in rows of their own; the reference's Late, Expired, HasInt; SameInts of equal lists: contracts.
-/
import Derived.Test.YtdjphghoollejaaRG
namespace Go.Proofs.Ytdjphghoollejaa
attribute [local irreducible] wpList wpQuiet
open Go.RowKit
set_option maxRecDepth 100000
set_option linter.unusedSimpArgs false
set_option linter.unusedVariables false

/-- An answer in a row of its own. -/
def IsO (w : World) (L : List Int) (e : Ending) (w' : World) : Prop := ∃ v, e = .returned v ∧ RowI w' w.heap.size v L ∧ Below w.heap.size w w'
def ItW (m : List Wt) : Prop := ∀ x ∈ m, I64 x.2.1 ∧ I64 x.2.2
theorem own_no (w : World) (B e s : Nat) : w.ownsRow B e s (.slice none 0 0) 0 [] := ⟨by simp, .inl ⟨rfl, rfl⟩⟩
theorem uw_sub {a b : Int} (ha : I64 a) (hb : I64 b) (h : b < a) : IntKind.u64.wrap (IntKind.u64.wrap a - IntKind.u64.wrap b) = a - b := by
 obtain ⟨h1, h2⟩ := ha
 obtain ⟨h3, h4⟩ := hb
 rw [IntKind.wrap_u64, IntKind.wrap_u64, IntKind.wrap_u64]
 omega
theorem uw_id {a : Int} (h : 0 ≤ a) (ha : I64 a) : IntKind.u64.wrap a = a := by
 obtain ⟨h1, h2⟩ := ha
 rw [IntKind.wrap_u64]
 omega
section
variable {ρ : Operand → Value} {o : Oper} {x y : Operand}
theorem cvU (ho : o.op = .convert 3 73 x) (a : Int) (hx : ρ x = .int .i64 a) (w : World) : (execOp ρ o).run Try.prog w = .ok (.value (.int .u64 (IntKind.u64.wrap a))) w := by
 unfold execOp
 go_simp
theorem sbU (ho : o.op = .binOp .sub 73 x y 73) (a b : Int) (hx : ρ x = .int .u64 a) (hy : ρ y = .int .u64 b) (w : World) : (execOp ρ o).run Try.prog w = .ok (.value (.int .u64 (IntKind.u64.wrap (a - b)))) w := by
 unfold execOp
 go_simp
theorem gtU (ho : o.op = .binOp .gtr 73 x y 73) (a b : Int) {t : Bool} (ht : decide (b < a) = t) (hx : ρ x = .int .u64 a) (hy : ρ y = .int .u64 b) (w : World) : (execOp ρ o).run Try.prog w = .ok (.value (.bool t)) w := by
 rw [← ht]
 unfold execOp
 go_simp
end
section
variable {ρ : Operand → Value} {o : Oper} {x y : Operand}
theorem cv6 (ho : o.op = .convert 3 74 x) (a : Int) (hx : ρ x = .int .i64 a) (w : World) : (execOp ρ o).run Try.prog w = .ok (.value (.int .u64 (IntKind.u64.wrap a))) w := by
 unfold execOp
 go_simp
theorem sb6 (ho : o.op = .binOp .sub 74 x y 74) (a b : Int) (hx : ρ x = .int .u64 a) (hy : ρ y = .int .u64 b) (w : World) : (execOp ρ o).run Try.prog w = .ok (.value (.int .u64 (IntKind.u64.wrap (a - b)))) w := by
 unfold execOp
 go_simp
theorem gt6 (ho : o.op = .binOp .gtr 74 x y 74) (a b : Int) {t : Bool} (ht : decide (b < a) = t) (hx : ρ x = .int .u64 a) (hy : ρ y = .int .u64 b) (w : World) : (execOp ρ o).run Try.prog w = .ok (.value (.bool t)) w := by
 rw [← ht]
 unfold execOp
 go_simp
end
set_option maxRecDepth 100000 in
set_option maxHeartbeats 8000000 in
theorem r_late {nw thn lim : Int} (hn : I64 nw) (ht : I64 thn) (hl : I64 lim) (w : World) : Calls Try.prog 26 #[.int .i64 nw, .int .i64 thn, .int .i64 lim] w fun e w' => e = .returned (.bool (late nw thn lim)) ∧ w = w' := by
 obtain ⟨q, hq⟩ : ∃ q, late nw thn lim = q := ⟨_, rfl⟩
 have HQ : Hid ((¬ 0 < lim → q = false) ∧ (¬ thn < nw → q = false) ∧ (0 < lim → thn < nw → decide (IntKind.u64.wrap lim < IntKind.u64.wrap (IntKind.u64.wrap nw - IntKind.u64.wrap thn)) = q)) := Lib.hid ⟨fun h => by rw [← hq]; exact decide_eq_false fun h2 => h h2.1, fun h => by rw [← hq]; exact decide_eq_false fun h2 => h h2.2.1, fun h h2 => by
  rw [← hq, uw_sub hn ht h2, uw_id (Int.le_of_lt h) hl]
  exact decide_eq_decide.2 ⟨fun h3 => ⟨h, h2, h3⟩, fun h3 => h3.2.2⟩⟩
 rw [hq]
 clear hq hn ht hl
 go_enter Try.func26, Try.ntmps26
 by_cases h1 : 0 < lim
 ·skip
  by_cases h2 : thn < nw
  ·skip
   have h3 := HQ.out.2.2 h1 h2
   have HQ3 := Lib.hid h3
   clear h3
   go_upto_region 1 with fail
   refine wl <| gz1 (.int .i64 lim) <| gzb (gtr_n rfl lim 0 (decide_eq_true h1)) <| gz3 (.bool true) (.int .i64 nw) (.int .i64 thn) <| gzb (gtr_n rfl nw thn (decide_eq_true h2)) <|
    gz3 (.bool true) (.bool true) (.int .i64 nw) <| gzv (.int .u64 (IntKind.u64.wrap nw)) (cv6 rfl nw (by kernel_rfl) _) <| gz1 (.int .i64 thn) <| gzv (.int .u64 (IntKind.u64.wrap thn)) (cv6 rfl thn (by kernel_rfl) _) <|
    gzw (.int .u64 (IntKind.u64.wrap (IntKind.u64.wrap nw - IntKind.u64.wrap thn))) (sb6 rfl _ _) <| gz1 (.int .i64 lim) <| gzv (.int .u64 (IntKind.u64.wrap lim)) (cv6 rfl lim (by kernel_rfl) _) <|
    gzw (.bool q) (gt6 rfl _ _ HQ3.out) <| gz2 (.bool q) (.bool q) <| wn ?_
   simp only [pu]
   go_wp2_with fail
   go_ret
   exact ⟨rfl, rfl⟩
  ·skip
   obtain rfl := HQ.out.2.1 h2
   go_upto_region 1 with fail
   refine wl <| gz1 (.int .i64 lim) <| gzb (gtr_n rfl lim 0 (decide_eq_true h1)) <| gz3 (.bool true) (.int .i64 nw) (.int .i64 thn) <| gzb (gtr_n rfl nw thn (decide_eq_false h2)) <|
    gz6 (.bool false) (.bool false) undef undef undef undef <| gz6 undef undef undef undef (.bool false) (.bool false) <| wn ?_
   simp only [pu]
   go_wp2_with fail
   go_ret
   exact ⟨rfl, rfl⟩
 ·skip
  obtain rfl := HQ.out.1 h1
  go_upto_region 1 with fail
  refine wl <| gz1 (.int .i64 lim) <| gzb (gtr_n rfl lim 0 (decide_eq_false h1)) <| gz6 (.bool false) undef undef undef (.bool false) (.bool false) <| gz6 undef undef undef undef undef undef <| gz4 undef undef (.bool false) (.bool false) <|
   wpList_nil ?_
  simp only [pu]
  go_wp2_with fail
  go_ret
  exact ⟨rfl, rfl⟩
theorem exp_step {M : List Wt} {bl sp h t : Int} {i : Nat} (hi : i < M.length) : expW (M.take (i + 1)) bl sp h t = expW (M.take i) bl sp h t ++ (if expB bl sp h t (M.getD i zwt) then [(M.getD i zwt).1] else []) := by
 unfold expW
 rw [take_one hi, List.filter_append, List.map_append]
 congr 1
 cases hb : expB bl sp h t (M.getD i zwt) with
 | true => rw [List.filter_cons_of_pos hb]; rfl
 | false => rw [List.filter_cons_of_neg (by rw [hb]; exact Bool.false_ne_true)]; rfl
theorem getD_memw {M : List Wt} {i : Nat} (hi : i < M.length) : M.getD i zwt ∈ M := by rw [getD_lt M i zwt hi]; exact List.getElem_mem hi
set_option maxRecDepth 100000 in
set_option maxHeartbeats 8000000 in
theorem r_exp {w : World} {al : Option Addr} {c : Nat} {M : List Wt} (hR : Cs w al (wtcs M)) (hl : M.length ≤ 1000) (hM : ItW M) {bl sp h t : Int} (hbl : I64 bl) (hsp : I64 sp) (hh : I64 h) (ht : I64 t) : Calls Try.prog 16 #[.slice al M.length c, .int .i64 bl, .int .i64 sp, .int .i64 h, .int .i64 t] w (IsO w (expW M bl sp h t)) := by
 have HRG : Hid (∀ V, Below w.heap.size w V → ∀ i, i < M.length → ∃ b off, al = some ⟨b, off, none⟩ ∧ V.rangeAt b (off + i * 3) (wtl (M.getD i zwt))) := Lib.hid fun V hV i hi => by
  obtain ⟨b, off, h1, -, h2⟩ := wt_rg (hR.below hV) hi
  exact ⟨b, off, h1, h2⟩
 have HST : Hid (∀ i, i < M.length → expW (M.take (i + 1)) bl sp h t = expW (M.take i) bl sp h t ++ (if expB bl sp h t (M.getD i zwt) then [(M.getD i zwt).1] else [])) := Lib.hid fun i hi => exp_step hi
 have HLA : Hid (∀ i, i < M.length → ∀ V, Calls Try.prog 26 #[.int .i64 h, .int .i64 (M.getD i zwt).2.1, .int .i64 bl] V (fun e w' => e = .returned (.bool (late h (M.getD i zwt).2.1 bl)) ∧ V = w') ∧ Calls Try.prog 26 #[.int .i64 t, .int .i64 (M.getD i zwt).2.2, .int .i64 sp] V (fun e w' => e = .returned (.bool (late t (M.getD i zwt).2.2 sp)) ∧ V = w')) := Lib.hid fun i hi V => ⟨r_late hh (hM _ (getD_memw hi)).1 hbl V, r_late ht (hM _ (getD_memw hi)).2 hsp V⟩
 have HLL : Hid (∀ i, (expW (M.take i) bl sp h t).length ≤ 1000) := Lib.hid fun i => by
  have h1 := expW_len (M.take i) bl sp h t
  rw [List.length_take] at h1
  omega
 have HEND : Hid (∀ V v, Below w.heap.size w V → RowI V w.heap.size v (expW (M.take M.length) bl sp h t) → IsO w (expW M bl sp h t) (.returned v) V) := Lib.hid fun V v hV h => ⟨v, rfl, by rw [List.take_length] at h; exact h, hV⟩
 obtain ⟨PO, hPO⟩ : ∃ PO, IsO w (expW M bl sp h t) = PO := ⟨_, rfl⟩
 rw [hPO] at HEND ⊢
 obtain ⟨n, hn⟩ : ∃ n, M.length = n := ⟨_, rfl⟩
 have HN := Lib.hid hn
 rw [hn] at HRG HST HEND HLA hl ⊢
 clear hR hn hPO hM hbl hsp hh ht
 go_enter Try.func16, Try.ntmps16
 go_upto_region 1 with fail
 refine wl <| gz1 (.slice none 0 0) <| wn ?_
 simp only [pu]
 go_upto_region 2 with fail
 refine wl <| gz3 (.slice al n c) (.int .i64 n) (.int .i64 0) <| wn ?_
 simp only [pu]
 go_wp2_with fail
 go_loopg [11, 16] n (fun gg s11 s16 wx => ∃ (i : Nat) (v : Value), s16 = .int .i64 i ∧ s11 = v ∧ i ≤ n ∧ gg + i = n ∧ Hid (RowI wx w.heap.size v (expW (M.take i) bl sp h t)) ∧ Hid (Below w.heap.size w wx))
 case atStart => exact ⟨0, _, rfl, rfl, by omega, by omega, Lib.hid (own_no _ _ _ _), Lib.hid (Below.refl _ _)⟩
 case round =>
  obtain ⟨i, v, rfl, hv, hin, hg, HP, HR⟩ := hrel
  obtain rfl := hv.symm
  have HGK : Hid (gk + i = n) := Lib.hid hg
  clear hg
  by_cases hlt : i < n
  ·skip
   obtain ⟨b, off, hbb, hrg⟩ := HRG.out wr HR.out i hlt
   obtain rfl := hbb
   obtain ⟨x, hx⟩ : ∃ x, M.getD i zwt = x := ⟨_, rfl⟩
   rw [hx] at hrg
   obtain ⟨V2, hst2, hb2, hX2⟩ := new_bx (c := wtA zwt) (c' := wtA x) (ty := 41) wr rfl (wtA_one x) (by kernel_rfl)
   have HR2 := Lib.hid (HR.out.trans (hb2.mono HR.out.size))
   have hbV2 := hb2
   go_upto_region 3 with fail
   refine wl <| gzb (lss_n rfl (i) (n) dT) <| wn ?_
   simp only [pu]
   go_upto_region 4 with fail
   refine wl <| gzv (.pointer (some ⟨b, off + i * 3, none⟩)) (idx_wt b off n c i hlt _ _ _ rfl (by kernel_rfl) (by kernel_rfl)) <| gzl rfl ⟨b, off + i * 3, none⟩ (.agg (wtA x)) (load_wt hrg) ?_
   simp only [pu]
   refine run_to rfl (some 13) rfl (.pointer (some ⟨wr.heap.size, 0, none⟩)) (wr.alloc (.cells (wtA zwt) 41)) (by kernel_rfl) ?_
   simp only [pu]
   refine gzs rfl (hst2) <| wn ?_
   obtain ⟨g5, hg5⟩ : ∃ g, wr.heap.size = g := ⟨_, rfl⟩
   rw [hg5] at hX2 ⊢
   clear hst2 hb2 hg5
   have HP2 := Lib.hid (HP.out.below hbV2)
   have hST := HST.out i hlt
   obtain ⟨CL1, CL2⟩ := HLA.out i hlt V2
   rw [hx] at hST CL1 CL2
   have HST2 := Lib.hid hST
   clear hST hx hrg HR HP hbV2
   cases hq1 : late h x.2.1 bl
   ·skip
    rw [hq1] at CL1
    cases hq2 : late t x.2.2 sp
    ·skip
     rw [hq2] at CL2
     have HQ := Lib.hid (And.intro hq1 hq2)
     clear hq1 hq2
     go_upto_region 5 with fail
     refine wl <| gz2 (.int .i64 h) (.pointer (some ⟨g5, 1, none⟩)) <| gzl rfl ⟨g5, 1, none⟩ (.int .i64 x.2.1) (hX2.load (i := 1) rfl (by kernel_rfl)) <| gz1 (.int .i64 bl) <| gzc (.bool false) (fun w' => V2 = w') (CL1) (fun V9 hV9 => ?_)
     subst hV9
     simp only [pu]
     refine gz3 (.bool false) (.int .i64 t) (.pointer (some ⟨g5, 2, none⟩)) <| gzl rfl ⟨g5, 2, none⟩ (.int .i64 x.2.2) (hX2.load (i := 2) rfl (by kernel_rfl)) <| gz1 (.int .i64 sp) <| gzc (.bool false) (fun w' => V2 = w') (CL2) (fun V9 hV9 => ?_)
     subst hV9
     simp only [pu]
     refine gz1 (.bool false) <| wn ?_
     simp only [pu]
     clear CL1 CL2
     have HP6 : Hid (RowI V2 w.heap.size v (expW (M.take (i + 1)) bl sp h t)) := Lib.hid (by rw [HST2.out, if_neg (by unfold expB; rw [HQ.out.1, HQ.out.2]; simp), List.append_nil]; exact HP2.out)
     clear HP2 hX2 HST2 HQ
     go_upto_region 7 with fail
     refine wl <| gzv (.int .i64 (i + 1 : Nat)) (add_one rfl i (by omega) (by kernel_rfl) _) <| gz1 (.int .i64 (i + 1 : Nat)) <| wn ?_
     simp only [pu]
     go_wp2_with fail
     go_roundg (n - (i + 1))
     case measure => have := HGK.out; omega
     case rel => exact ⟨i + 1, v, rfl, rfl, by omega, by omega, HP6, HR2⟩
    ·skip
     rw [hq2] at CL2
     have HQ := Lib.hid hq2
     clear hq1 hq2
     go_upto_region 5 with fail
     refine wl <| gz2 (.int .i64 h) (.pointer (some ⟨g5, 1, none⟩)) <| gzl rfl ⟨g5, 1, none⟩ (.int .i64 x.2.1) (hX2.load (i := 1) rfl (by kernel_rfl)) <| gz1 (.int .i64 bl) <| gzc (.bool false) (fun w' => V2 = w') (CL1) (fun V9 hV9 => ?_)
     subst hV9
     simp only [pu]
     refine gz3 (.bool false) (.int .i64 t) (.pointer (some ⟨g5, 2, none⟩)) <| gzl rfl ⟨g5, 2, none⟩ (.int .i64 x.2.2) (hX2.load (i := 2) rfl (by kernel_rfl)) <| gz1 (.int .i64 sp) <| gzc (.bool true) (fun w' => V2 = w') (CL2) (fun V9 hV9 => ?_)
     subst hV9
     simp only [pu]
     refine gz1 (.bool true) <| wn ?_
     simp only [pu]
     clear CL1 CL2
     have hbA : Below V2.heap.size V2 (V2.alloc (.cells #[.int .i64 (x.1)] 3)) := (Below.refl _ V2).alloc (Nat.le_refl _) _
     have hXA : Bx (V2.alloc (.cells #[.int .i64 (x.1)] 3)) V2.heap.size #[.int .i64 (x.1)] 3 := heap_alloc_last V2 _
     obtain ⟨v6, W6, hap6, hrow6, hb6, -, -⟩ := app_int (RowI.below HP2.out hbA) (Nat.le_trans (HR2.out.size) hbA.size) (some ⟨V2.heap.size, 0, none⟩) 1 1 [x.1] (Cs.block (cs := icells [x.1]) hXA) rfl (by have := HLL.out i; omega) (by omega)
     have hbW6 : Below w.heap.size V2 W6 := (hbA.mono (HR2.out.size)).trans hb6
     go_upto_region 6 with fail
     refine wl <| gz2 (v) (.pointer (some ⟨g5, 0, none⟩)) <| gzl rfl ⟨g5, 0, none⟩ (.int .i64 x.1) (hX2.load (i := 0) rfl (by kernel_rfl)) ?_
     simp only [pu]
     refine gw_build (by kernel_rfl) (some 35) rfl 22 1 #[(0, .tmp 34)] rfl #[(0, .int .i64 (x.1))] (by kernel_rfl) (.slice (some ⟨V2.heap.size, 0, none⟩) 1 1) _ (one_int (x.1) V2) ?_
     simp only [pu]
     refine append_step rfl (some 36) rfl 22 rfl (.tmp 32) (.tmp 35) 22 rfl (v) (.slice (some ⟨V2.heap.size, 0, none⟩) 1 1) (v6) W6 (by kernel_rfl) (by kernel_rfl) hap6 ?_
     simp only [pu]
     refine gz1 (v6) <| wn ?_
     simp only [pu]
     have HR6 := Lib.hid (HR2.out.trans hbW6)
     have HP6 : Hid (RowI W6 w.heap.size v6 (expW (M.take (i + 1)) bl sp h t)) := Lib.hid (by rw [HST2.out, if_pos (by unfold expB; rw [HQ.out]; simp)]; exact hrow6)
     clear hap6 hrow6 hb6 hbW6 hbA hXA HP2 HR2 hX2 HST2 HQ
     go_upto_region 7 with fail
     refine wl <| gzv (.int .i64 (i + 1 : Nat)) (add_one rfl i (by omega) (by kernel_rfl) _) <| gz1 (.int .i64 (i + 1 : Nat)) <| wn ?_
     simp only [pu]
     go_wp2_with fail
     go_roundg (n - (i + 1))
     case measure => have := HGK.out; omega
     case rel => exact ⟨i + 1, v6, rfl, rfl, by omega, by omega, HP6, HR6⟩
   ·skip
    rw [hq1] at CL1
    have HQ := Lib.hid hq1
    clear hq1
    go_upto_region 5 with fail
    refine wl <| gz2 (.int .i64 h) (.pointer (some ⟨g5, 1, none⟩)) <| gzl rfl ⟨g5, 1, none⟩ (.int .i64 x.2.1) (hX2.load (i := 1) rfl (by kernel_rfl)) <| gz1 (.int .i64 bl) <| gzc (.bool true) (fun w' => V2 = w') (CL1) (fun V9 hV9 => ?_)
    subst hV9
    simp only [pu]
    refine gz6 (.bool true) undef undef undef undef undef <| gz1 (.bool true) <| wn ?_
    simp only [pu]
    clear CL1 CL2
    have hbA : Below V2.heap.size V2 (V2.alloc (.cells #[.int .i64 (x.1)] 3)) := (Below.refl _ V2).alloc (Nat.le_refl _) _
    have hXA : Bx (V2.alloc (.cells #[.int .i64 (x.1)] 3)) V2.heap.size #[.int .i64 (x.1)] 3 := heap_alloc_last V2 _
    obtain ⟨v6, W6, hap6, hrow6, hb6, -, -⟩ := app_int (RowI.below HP2.out hbA) (Nat.le_trans (HR2.out.size) hbA.size) (some ⟨V2.heap.size, 0, none⟩) 1 1 [x.1] (Cs.block (cs := icells [x.1]) hXA) rfl (by have := HLL.out i; omega) (by omega)
    have hbW6 : Below w.heap.size V2 W6 := (hbA.mono (HR2.out.size)).trans hb6
    go_upto_region 6 with fail
    refine wl <| gz2 (v) (.pointer (some ⟨g5, 0, none⟩)) <| gzl rfl ⟨g5, 0, none⟩ (.int .i64 x.1) (hX2.load (i := 0) rfl (by kernel_rfl)) ?_
    simp only [pu]
    refine gw_build (by kernel_rfl) (some 35) rfl 22 1 #[(0, .tmp 34)] rfl #[(0, .int .i64 (x.1))] (by kernel_rfl) (.slice (some ⟨V2.heap.size, 0, none⟩) 1 1) _ (one_int (x.1) V2) ?_
    simp only [pu]
    refine append_step rfl (some 36) rfl 22 rfl (.tmp 32) (.tmp 35) 22 rfl (v) (.slice (some ⟨V2.heap.size, 0, none⟩) 1 1) (v6) W6 (by kernel_rfl) (by kernel_rfl) hap6 ?_
    simp only [pu]
    refine gz1 (v6) <| wn ?_
    simp only [pu]
    have HR6 := Lib.hid (HR2.out.trans hbW6)
    have HP6 : Hid (RowI W6 w.heap.size v6 (expW (M.take (i + 1)) bl sp h t)) := Lib.hid (by rw [HST2.out, if_pos (by unfold expB; rw [HQ.out]; simp)]; exact hrow6)
    clear hap6 hrow6 hb6 hbW6 hbA hXA HP2 HR2 hX2 HST2 HQ
    go_upto_region 7 with fail
    refine wl <| gzv (.int .i64 (i + 1 : Nat)) (add_one rfl i (by omega) (by kernel_rfl) _) <| gz1 (.int .i64 (i + 1 : Nat)) <| wn ?_
    simp only [pu]
    go_wp2_with fail
    go_roundg (n - (i + 1))
    case measure => have := HGK.out; omega
    case rel => exact ⟨i + 1, v6, rfl, rfl, by omega, by omega, HP6, HR6⟩
  ·skip
   obtain rfl : i = n := by omega
   go_upto_region 3 with fail
   refine wl <| gzb (lss_n rfl (i) (i) dF) <| wn ?_
   simp only [pu]
   have HE := Lib.hid (HEND.out wr v HR.out HP.out)
   clear HP HR HEND HST HRG HLA
   go_upto_region 8 with fail
   refine wl <| gz2 (v) (v) <| wn ?_
   simp only [pu]
   go_wp2_with fail
   exact HE.out
theorem mem_step {L : List Int} {k : Int} {i : Nat} (hi : i < L.length) (h : k ∉ L.take i) (hn : ¬ L.getD i 0 = k) : k ∉ L.take (i + 1) := by
 rw [List.take_add_one, List.getElem?_eq_getElem hi, Option.toList_some, List.mem_append]
 rintro (h1 | h1)
 ·exact h h1
 ·rw [getD_lt L i 0 hi] at hn
  simp only [List.mem_singleton] at h1; exact hn h1.symm
theorem mem_hit {L : List Int} {k : Int} {i : Nat} (hi : i < L.length) (h : L.getD i 0 = k) : k ∈ L := by
 rw [getD_lt L i 0 hi] at h
 rw [← h]; exact List.getElem_mem hi
set_option maxRecDepth 100000 in
set_option maxHeartbeats 8000000 in
theorem r_has {w : World} {a : Option Addr} {c : Nat} {L : List Int} (h1 : Cs w a (icells L)) (hl : L.length ≤ 100000) (k : Int) (hk : k ∈ L) : Calls Try.prog 21 #[.slice a L.length c, .int .i64 k] w fun e w' => e = .returned (.bool true) ∧ Below w.heap.size w w' := by
 have HA : Hid (∀ V, Below w.heap.size w V → ∀ i, i < L.length → ∃ b off, a = some ⟨b, off, none⟩ ∧ V.cell? ⟨b, off + i, none⟩ = some (.int .i64 (L.getD i 0))) := Lib.hid fun V hV i hi => by
  obtain ⟨b, off, e1, -, c1⟩ := int_at (h1.below hV) hi
  exact ⟨b, off, e1, c1⟩
 have HS : Hid (∀ i, i < L.length → k ∉ L.take i → ¬ L.getD i 0 = k → k ∉ L.take (i + 1)) := Lib.hid fun i hi h hn => mem_step hi h hn
 have HK : Hid (k ∈ L.take L.length) := Lib.hid (by rw [List.take_length]; exact hk)
 obtain ⟨n, hn⟩ : ∃ n, L.length = n := ⟨_, rfl⟩
 rw [hn] at HA HS HK hl ⊢
 have HL := Lib.hid hl
 clear h1 hn hl hk
 go_enter Try.func21, Try.ntmps21
 go_upto_region 1 with fail
 refine wl <| gz3 (.slice a n c) (.int .i64 n) (.int .i64 0) <| wn ?_
 simp only [pu]
 go_wp2_with fail
 go_loopg [9] n (fun gg s9 wx => ∃ (i : Nat), s9 = .int .i64 i ∧ i ≤ n ∧ gg + i = n ∧ Hid (k ∉ L.take i) ∧ Hid (Below w.heap.size w wx))
 case atStart => exact ⟨0, rfl, by omega, by omega, Lib.hid (by simp), Lib.hid (Below.refl _ _)⟩
 case round =>
  obtain ⟨i, rfl, hin, hg, HP, HR⟩ := hrel
  have HGK : Hid (gk + i = n) := Lib.hid hg
  clear hg
  by_cases hlt : i < n
  ·skip
   obtain ⟨b, off, hq1, hc1⟩ := HA.out wr HR.out i hlt
   obtain rfl := hq1
   have HS1 := HS.out i hlt HP.out
   generalize L.getD i 0 = v at *
   have HS2 := Lib.hid HS1
   clear HS1
   go_upto_region 2 with fail
   refine wl <| gzb (lss_n rfl (i) (n) dT) <| wn ?_
   simp only [pu]
   go_upto_region 3 with fail
   refine wl <| gzv (.pointer (some ⟨b, off + i, none⟩)) (idx_int b off n c i hlt _ _ _ rfl (by kernel_rfl) (by kernel_rfl)) <| gzl rfl ⟨b, off + i, none⟩ (.int .i64 v) (load_cell hc1 (by kernel_rfl)) <| gz1 (.int .i64 v) <| wn ?_
   simp only [pu]
   clear hc1
   by_cases he9 : v = k
   ·skip
    go_upto_region 4 with fail
    refine wl <| gz2 (.int .i64 v) (.int .i64 k) <| gzb (eql_n rfl v k (decide_eq_true he9)) <| wn ?_
    simp only [pu]
    clear he9 HS2 HS HA HP HK
    go_upto_region 5 with fail
    refine wl <| gz1 (.bool true) <| wn ?_
    simp only [pu]
    go_wp2_with fail
    go_ret
    exact ⟨rfl, HR.out⟩
   ·skip
    go_upto_region 4 with fail
    refine wl <| gz2 (.int .i64 v) (.int .i64 k) <| gzb (eql_n rfl v k (decide_eq_false he9)) <| wn ?_
    simp only [pu]
    have HP2 := Lib.hid (HS2.out he9)
    clear he9 HS2 HP
    go_upto_region 6 with fail
    refine wl <| gzv (.int .i64 (i + 1 : Nat)) (add_one rfl i (by have := HL.out; omega) (by kernel_rfl) _) <| gz1 (.int .i64 (i + 1 : Nat)) <| wn ?_
    simp only [pu]
    go_wp2_with fail
    go_roundg (n - (i + 1))
    case measure => have := HGK.out; omega
    case rel => exact ⟨i + 1, rfl, by omega, by omega, HP2, HR⟩
  ·skip
   obtain rfl : i = n := by omega
   exact absurd HK.out HP.out
set_option maxRecDepth 100000 in
set_option maxHeartbeats 8000000 in
theorem same_ints {w : World} {a a2 : Option Addr} {c c2 : Nat} {L : List Int} (h1 : Cs w a (icells L)) (h2 : Cs w a2 (icells L)) (hl : L.length ≤ 100000) : Calls Try.prog 14 #[.slice a L.length c, .slice a2 L.length c2] w fun e w' => e = .returned (.bool true) ∧ Below w.heap.size w w' := by
 have HA : Hid (∀ V, Below w.heap.size w V → ∀ i, i < L.length → ∃ b off b2 off2, a = some ⟨b, off, none⟩ ∧ a2 = some ⟨b2, off2, none⟩ ∧ V.cell? ⟨b, off + i, none⟩ = some (.int .i64 (L.getD i 0)) ∧ V.cell? ⟨b2, off2 + i, none⟩ = some (.int .i64 (L.getD i 0))) := Lib.hid fun V hV i hi => by
  obtain ⟨b, off, e1, -, c1⟩ := int_at (h1.below hV) hi
  obtain ⟨b2, off2, e2, -, c2⟩ := int_at (h2.below hV) hi
  exact ⟨b, off, b2, off2, e1, e2, c1, c2⟩
 obtain ⟨n, hn⟩ : ∃ n, L.length = n := ⟨_, rfl⟩
 rw [hn] at HA hl ⊢
 have HL := Lib.hid hl
 clear h1 h2 hn hl
 go_enter Try.func14, Try.ntmps14
 go_upto_region 1 with fail
 refine wl <| gz4 (.slice a n c) (.int .i64 n) (.slice a2 n c2) (.int .i64 n) <| gzb (neq_n rfl (n) (n) (decide_eq_false (fun h => h rfl))) <| wn ?_
 simp only [pu]
 go_upto_region 3 with fail
 refine wl <| gz3 (.slice a n c) (.int .i64 n) (.int .i64 0) <| wn ?_
 simp only [pu]
 go_wp2_with fail
 go_loopg [13] n (fun gg s13 wx => ∃ (i : Nat), s13 = .int .i64 i ∧ i ≤ n ∧ gg + i = n ∧ Hid (Below w.heap.size w wx))
 case atStart => exact ⟨0, rfl, by omega, by omega, Lib.hid (Below.refl _ _)⟩
 case round =>
  obtain ⟨i, rfl, hin, hg, HR⟩ := hrel
  have HGK : Hid (gk + i = n) := Lib.hid hg
  clear hg
  by_cases hlt : i < n
  ·skip
   obtain ⟨b, off, b2, off2, hq1, hq2, hc1, hc2⟩ := HA.out wr HR.out i hlt
   obtain rfl := hq1
   obtain rfl := hq2
   generalize L.getD i 0 = v at *
   go_upto_region 4 with fail
   refine wl <| gzb (lss_n rfl (i) (n) dT) <| wn ?_
   simp only [pu]
   go_upto_region 5 with fail
   refine wl <| gz2 (.int .i64 i) (.int .i64 i) <| wn ?_
   simp only [pu]
   go_upto_region 6 with fail
   refine wp_region_class (C := fun U => Below wr.heap.size wr U) (by kernel_rfl) (by kernel_rfl) ((Below.refl _ wr).drew) ?_
   refine gy (.slice (some ⟨b, off, none⟩) n c) <| gy (.int .i64 i) <| gyv (.pointer (some ⟨b, off + i, none⟩)) (fun U hU => idx_int b off n c i hlt U _ _ rfl (by kernel_rfl) (by kernel_rfl)) <|
     gyl rfl ⟨b, off + i, none⟩ (.int .i64 v) (fun U hU => load_cell ((hU.cell (p := ⟨b, off + i, none⟩) (World.block_lt_of_cell? wr _ hc1)).trans hc1) (by kernel_rfl)) <| gy (.slice (some ⟨b2, off2, none⟩) n c2) <| gy (.int .i64 i) <|
     gyv (.pointer (some ⟨b2, off2 + i, none⟩)) (fun U hU => idx_int b2 off2 n c2 i hlt U _ _ rfl (by kernel_rfl) (by kernel_rfl)) <|
     gyl rfl ⟨b2, off2 + i, none⟩ (.int .i64 v) (fun U hU => load_cell ((hU.cell (p := ⟨b2, off2 + i, none⟩) (World.block_lt_of_cell? wr _ hc2)).trans hc2) (by kernel_rfl)) <| gyv (.bool false) (fun U hU => neq_n rfl (v) (v) (decide_eq_false (fun h => h rfl)) (by kernel_rfl) (by kernel_rfl) U) ?_
   simp only [pu]
   apply wpQuiet_nil
   intro V3 hV3
   have HR2 := Lib.hid (HR.out.trans (hV3.mono HR.out.size))
   clear hV3 hc1 hc2 HR
   go_upto_region 8 with fail
   refine wl <| gzv (.int .i64 (i + 1 : Nat)) (add_one rfl i (by have := HL.out; omega) (by kernel_rfl) _) <| gz1 (.int .i64 (i + 1 : Nat)) <| wn ?_
   simp only [pu]
   go_wp2_with fail
   go_roundg (n - (i + 1))
   case measure => have := HGK.out; omega
   case rel => exact ⟨i + 1, rfl, by omega, by omega, HR2⟩
  ·skip
   obtain rfl : i = n := by omega
   go_upto_region 4 with fail
   refine wl <| gzb (lss_n rfl (i) (i) dF) <| wn ?_
   simp only [pu]
   go_wp2_with fail
   go_ret
   exact ⟨rfl, HR.out⟩
end Go.Proofs.Ytdjphghoollejaa
