/-
  The walk of LedgerBegins.
-/
import Derived.Test.YtebnlklodokhkaaLX
namespace Go.Proofs.Ytebnlklodokhkaa
open Go.RowKit
set_option linter.unusedSimpArgs false
set_option linter.unusedVariables false

/-- What the region keeps that exchanges two accounts. -/
structure KX (W : World) (B gm n cm : Nat) (ls : List Ac) (x y : Nat) (qx qy : Ac) (b9 b13 b15 b17 : Bool) (V : World) : Prop where
  bel : Below B W V
  o9 : b15 = true → b9 = true
  o13 : b15 = true → b13 = true
  o17 : b17 = true → b15 = true
  r0 : b15 = false → RowA V B (.slice (some ⟨gm, 0, none⟩) n cm) ls
  r1 : b15 = true → b17 = false → RowA V B (.slice (some ⟨gm, 0, none⟩) n cm) (ls.set x qy)
  r2 : b17 = true → RowA V B (.slice (some ⟨gm, 0, none⟩) n cm) ((ls.set x qy).set y qx)
theorem load_row {w : World} {B g n c i : Nat} {A : List Ac} (h : RowA w B (.slice (some ⟨g, 0, none⟩) n c) A) (hn : n = A.length) (hi : i < A.length) : (Instr.loadAt 28 (.pointer (some ⟨g, 0 + i * 3, none⟩))).run Try.prog w = .ok (.agg (acA (aca A i))) w := by
  subst hn
  obtain ⟨a, c2, e, hc, -⟩ := h.cs
  simp only [Value.slice.injEq] at e
  obtain ⟨rfl, -, -⟩ := e
  obtain ⟨b, off, e2, -, hr⟩ := ac_range hc hi
  cases e2
  exact load_ac hr
/-- The lists that are asked about: all that is known of one. -/
structure SQ (W : World) (s : Option Addr × Nat × List Ac) : Prop where
  cs : Cs W s.1 (acc s.2.2)
  l : s.2.2.length ≤ 4398046511104
  w : AcW s.2.2
  z : ∀ x, x ∈ s.2.2 → x.1.size ≤ 140737488355328
def sls (S : List (Option Addr × Nat × List Ac)) : List Value := S.map fun s => .slice s.1 s.2.2.length s.2.1
theorem sls_at {S : List (Option Addr × Nat × List Ac)} {k : Nat} {s : Option Addr × Nat × List Ac} (h : S[k]? = some s) : (sls S)[k]? = some (.slice s.1 s.2.2.length s.2.1) := by
  unfold sls
  rw [List.getElem?_map, h]
  rfl
theorem infoAS : (Try.prog.info? 22).map (fun i => (i.zero, i.size, i.bytes)) = some (some (.slice none 0 0), 1, 24) := by kernel_rfl
theorem build_3s (a b c : Value) (V : World) (ha : a.oneCell' = true) (hb : b.oneCell' = true) (hc : c.oneCell' = true) (x1 x2 x3 : Option Addr × Nat × List Ac) (ea : a = .slice x1.1 x1.2.2.length x1.2.1) (eb : b = .slice x2.1 x2.2.2.length x2.2.1) (ec : c = .slice x3.1 x3.2.2.length x3.2.1) : (Instr.buildSlice 40 3 #[(0, a), (1, b), (2, c)]).run Try.prog V = .ok (.slice (some ⟨V.heap.size, 0, none⟩) 3 3) (V.alloc (.cells (sls [x1, x2, x3]).toArray 22)) := by
  subst ea eb ec
  obtain ⟨i0, hi, hz0, hz1, hz2⟩ := info_parts infoAS
  refine run_buildSlice V 40 22 3 _ (sls [x1, x2, x3]).toArray i0 _ Try.underlying40 hi hz0 (by rw [hz1]; omega) (by rw [hz1]; omega) ?_
  rw [hz1]
  kernel_rfl
theorem idx_as (b off n c k : Nat) (hk : k < n) (V : World) (ρ : Operand → Value) (o : Oper) {x y : Operand} (ho : o.op = .indexAddr 40 x y) (hx : ρ x = .slice (some ⟨b, off, none⟩) n c) (hy : ρ y = .int .i64 k) : (execOp ρ o).run Try.prog V = .ok (.value (.pointer (some ⟨b, off + k, none⟩))) V := by
  have hs : (sizeOf (Try.prog.elem 40)).run Try.prog V = .ok 1 V := by kernel_rfl
  have hlm : (k : Int) < (n : Int) := by omega
  unfold execOp
  simp only [ho, hx, hy]
  go_simp
theorem mem_ins {A B : List Ac} {Q : Ac → Prop} (hA : ∀ x, x ∈ A → Q x) (hB : ∀ x, x ∈ B → Q x) : ∀ x, x ∈ A ++ B → Q x := fun x hx => (List.mem_append.1 hx).elim (hA x) (hB x)
/-- What is known of a list that is made. -/
structure MQ (M : List Ac) : Prop where
  w : AcW M
  z : ∀ x, x ∈ M → x.1.size ≤ 20
  l : M.length ≤ 10
theorem MQ.set {M : List Ac} {i : Nat} {q : Ac} (h : MQ M) (hq : q ∈ M) : MQ (M.set i q) :=
  ⟨acw_of fun x hx => (List.mem_or_eq_of_mem_set hx).elim (acw_mem h.w x) (fun e => e ▸ acw_mem h.w q hq), fun x hx => (List.mem_or_eq_of_mem_set hx).elim (h.z x) (fun e => e ▸ h.z q hq), by rw [List.length_set]; exact h.l⟩
theorem gen_256 (A : List Ac) : (genY A).1.length ≤ 256 := by
  by_cases h : 256 < A.length
  · rw [genY_big h]; exact Nat.zero_le _
  · exact Nat.le_trans (gen_len A) (by omega)
set_option maxRecDepth 100000 in
set_option maxHeartbeats 8000000 in
theorem begins_core (la : Option Addr) (lk : Nat) (A : List Ac) (ak : Option Addr) (ck : Nat) (L : List Int) (x0 : Int) (w : World) (hla : Cs w la (acc A)) (hn : A.length * 32 ≤ 140737488351232) (haw : AcW A) (haz : ∀ x, x ∈ A → x.1.size ≤ 140737488355328) (hck : Cs w ak (icells L)) (hl : L.length ≤ 9223372036854775807) :
    Calls Try.prog 4 #[.slice la A.length lk, .slice ak L.length ck, .int .i64 x0] w fun e w' => e = .returned (.bool true) ∧ Below w.heap.size w w' := by
  have HK := Lib.hid (fun (V : World) (h : Below w.heap.size w V) => (known_true V).mono fun e w' (q : e = .returned (.bool true) ∧ Below V.heap.size V w') => (⟨q.1, h.trans (q.2.mono h.size)⟩ : e = .returned (.bool true) ∧ Below w.heap.size w w'))
  have HNL := Lib.hid hl
  have HAL := Lib.hid hn
  have HAW := Lib.hid haw
  have HAZ := Lib.hid haz
  have HLA := Lib.hid hla
  have HCK := Lib.hid hck
  have HB0 := Lib.hid (Below.refl w.heap.size w)
  have HX : Hid True := Lib.hid trivial
  have CB := big_any la lk A
  clear hla hck hl hn haw haz
  go_enter Try.func4, Try.ntmps4
  go_upto_region 1 with fail
  have CLn := long_one w.heap.size ak L.length ck (w.alloc (.cells #[.slice ak L.length ck] 26)) (heap_alloc_last w _) HNL.out
  have hor := one_row ak L.length ck w
  have hb1 : Below w.heap.size w (w.alloc (.cells #[.slice ak L.length ck] 26)) := (Below.refl _ w).alloc (Nat.le_refl _) _
  generalize w.alloc (.cells #[.slice ak L.length ck] 26) = W1 at *
  have HB1 := Lib.hid hb1
  have HCK1 := Lib.hid (HCK.out.below hb1)
  have HLA1 := Lib.hid (HLA.out.below hb1)
  clear hb1 HB0 HX
  by_cases hlong : 160 < L.length
  · skip
    rw [decide_eq_true (by omega)] at CLn
    apply wp_region_lit
    refine gw_val (by kernel_rfl) (some 16) rfl (.slice ak L.length ck) (by kernel_rfl) ?_
    simp only [pu1, pu2, pu3, pu4]
    refine gw_build (by kernel_rfl) (some 17) rfl 54 1 #[(0, .tmp 16)] rfl #[(0, .slice ak L.length ck)] (by kernel_rfl) (.slice (some ⟨w.heap.size, 0, none⟩) 1 1) _ hor ?_
    simp only [pu1, pu2, pu3, pu4]
    refine gw_call (by kernel_rfl) (some 18) rfl 8 #[.slice (some ⟨w.heap.size, 0, none⟩) 1 1] (.bool true) (fun w' => W1 = w') (by kernel_rfl) (CLn) (fun V9 hV9 => ?_)
    subst hV9
    simp only [pu1, pu2, pu3, pu4]
    refine gw_val (by kernel_rfl) (some 19) rfl (.bool true) (by kernel_rfl) ?_
    simp only [pu1, pu2, pu3, pu4]
    with_reducible refine gw_not (by kernel_rfl) (some 20) rfl ?_
    simp only [pu1, pu2, pu3, pu4]
    with_reducible refine gw_not (by kernel_rfl) (some 21) rfl ?_
    simp only [pu1, pu2, pu3, pu4]
    refine gw_val (by kernel_rfl) (some 22) rfl (.bool true) (by kernel_rfl) ?_
    simp only [pu1, pu2, pu3, pu4]
    apply wpList_nil
    clear CLn hor CB
    go_upto_region 2 with fail
    apply wp_region_lit
    refine gw_call (by kernel_rfl) (some 23) rfl 10 #[] (.bool true) (fun w' => Below w.heap.size w w') (by kernel_rfl) (HK.out W1 (HB1.out)) (fun V9 hV9 => ?_)
    simp only [pu1, pu2, pu3, pu4]
    refine gw_val (by kernel_rfl) (some 6) rfl (.bool true) (by kernel_rfl) ?_
    simp only [pu1, pu2, pu3, pu4]
    apply wpList_nil
    have HE := Lib.hid hV9
    clear hV9
    go_wp2_with fail
    go_ret
    exact ⟨rfl, HE.out⟩
  · skip
    rw [decide_eq_false (by omega)] at CLn
    apply wp_region_lit
    refine gw_val (by kernel_rfl) (some 16) rfl (.slice ak L.length ck) (by kernel_rfl) ?_
    simp only [pu1, pu2, pu3, pu4]
    refine gw_build (by kernel_rfl) (some 17) rfl 54 1 #[(0, .tmp 16)] rfl #[(0, .slice ak L.length ck)] (by kernel_rfl) (.slice (some ⟨w.heap.size, 0, none⟩) 1 1) _ hor ?_
    simp only [pu1, pu2, pu3, pu4]
    refine gw_call (by kernel_rfl) (some 18) rfl 8 #[.slice (some ⟨w.heap.size, 0, none⟩) 1 1] (.bool false) (fun w' => W1 = w') (by kernel_rfl) (CLn) (fun V9 hV9 => ?_)
    subst hV9
    simp only [pu1, pu2, pu3, pu4]
    refine gw_val (by kernel_rfl) (some 19) rfl (.bool false) (by kernel_rfl) ?_
    simp only [pu1, pu2, pu3, pu4]
    refine gw_val (by kernel_rfl) (some 20) rfl (.slice la A.length lk) (by kernel_rfl) ?_
    simp only [pu1, pu2, pu3, pu4]
    refine gw_callE (by kernel_rfl) (some 21) rfl 9 #[.slice la A.length lk] (fun v w' => ∃ b, v = .bool b ∧ Below W1.heap.size W1 w') (by kernel_rfl) ((CB W1 HLA1.out (by have := HAL.out; omega)).mono fun e w' q => by obtain ⟨⟨b, h1⟩, h2⟩ := q; exact ⟨_, h1, b, rfl, h2⟩) (fun vv W2 hq => ?_)
    obtain ⟨bg, rfl, hb2⟩ := hq
    simp only [pu1, pu2, pu3, pu4]
    have HB2 := Lib.hid (HB1.out.trans (hb2.mono HB1.out.size))
    have HCK2 := Lib.hid (HCK1.out.below hb2)
    have HLA2 := Lib.hid (HLA1.out.below hb2)
    clear CB CLn hor hb2 HB1 HCK1 HLA1 HCK HLA
    cases bg
    · skip
      refine gw_val (by kernel_rfl) (some 22) rfl (.bool false) (by kernel_rfl) ?_
      simp only [pu1, pu2, pu3, pu4]
      apply wpList_nil
      have hnl0 := nil_ac W2
      have hb3 : Below W2.heap.size W2 (W2.alloc (.cells #[] 28)) := (Below.refl _ W2).alloc (Nat.le_refl _) _
      have hr3 : RowA (W2.alloc (.cells #[] 28)) W2.heap.size (.slice (some ⟨W2.heap.size, 0, none⟩) 0 0) [] := own_nil W2 28 3
      generalize W2.alloc (.cells #[] 28) = W3 at *
      have CM := made_s ak ck L W3 (HCK2.out.below hb3) (by omega)
      obtain ⟨g3, hg3⟩ : ∃ g3, W2.heap.size = g3 := ⟨_, rfl⟩
      have HG3 := Lib.hid hg3
      rw [hg3] at hnl0
      clear hg3
      go_upto_region 3 with fail
      apply wp_region_lit
      refine gw_build (by kernel_rfl) (some 24) rfl 22 0 #[] rfl #[] (by kernel_rfl) (.slice (some ⟨g3, 0, none⟩) 0 0) _ hnl0 ?_
      simp only [pu1, pu2, pu3, pu4]
      refine gw_val (by kernel_rfl) (some 25) rfl (.slice ak L.length ck) (by kernel_rfl) ?_
      simp only [pu1, pu2, pu3, pu4]
      refine gw_callE (by kernel_rfl) (some 26) rfl 11 #[.slice ak L.length ck] (fun v w' => ∃ ad kk P c, v = .agg (lgA ad (List.length P) kk c) ∧ Cs w' ad (acc P) ∧ P.length ≤ kk ∧ LQ P c ∧ Below W3.heap.size W3 w' ∧ P.length ≤ 10) (by kernel_rfl) (CM.mono fun e w' q => by obtain ⟨ad, kk, P, c, h1, h2⟩ := q; exact ⟨_, h1, ad, kk, P, c, rfl, h2⟩) (fun vv W4 hq => ?_)
      obtain ⟨ma, mk, P, mc, rfl, hcm, hkm, hlq, hb4, hp10⟩ := hq
      obtain ⟨a7, c7, W5, hap7, hr7, hb5, -, -⟩ := app_ac (own_below hr3 hb4) (by have := hb3.size; have := hb4.size; omega) ma mk P hcm (by simp only [List.length_nil]; omega)
      simp only [List.length_nil, Nat.zero_add] at hap7 hr7
      rw [List.nil_append] at hr7
      rw [HG3.out] at hap7
      simp only [pu1, pu2, pu3, pu4]
      refine gw_val (by kernel_rfl) (some 27) rfl (.slice ma P.length mk) (by kernel_rfl) ?_
      simp only [pu1, pu2, pu3, pu4]
      refine append_step rfl (some 28) rfl 22 rfl (.tmp 24) (.tmp 27) 22 rfl (.slice (some ⟨g3, 0, none⟩) 0 0) (.slice ma P.length mk) (.slice a7 P.length c7) W5 (by kernel_rfl) (by kernel_rfl) hap7 ?_
      simp only [pu1, pu2, pu3, pu4]
      refine gw_val (by kernel_rfl) (some 7) rfl (.slice a7 P.length c7) (by kernel_rfl) ?_
      simp only [pu1, pu2, pu3, pu4]
      apply wpList_nil
      have hb35 := hb3.trans ((hb4.mono hb3.size).trans hb5)
      have HB5 := Lib.hid (HB2.out.trans (hb35.mono HB2.out.size))
      have HLA5 := Lib.hid (HLA2.out.below hb35)
      have HMP : Hid (MQ P) := Lib.hid ⟨hlq.w, hlq.z, hp10⟩
      have HR7 := Lib.hid hr7
      have HS25 : Hid (W2.heap.size ≤ W5.heap.size) := Lib.hid hb35.size
      have HWB : Hid (w.heap.size ≤ W2.heap.size) := Lib.hid HB2.out.size
      have HL2 : Hid (∀ V, Below W2.heap.size W5 V → Cs V la (acc A)) := Lib.hid fun V h => HLA2.out.below (hb35.trans h)
      clear hap7 hnl0 CM hcm hkm hlq hb3 hb4 hb5 hp10 hr3 hr7 hb35 HB2 HLA2 HCK2 HG3
      go_upto_region 4 with fail
      apply wp_region_lit
      refine gw_val (by kernel_rfl) (some 29) rfl (.slice a7 P.length c7) (by kernel_rfl) ?_
      simp only [pu1, pu2, pu3, pu4]
      refine gw_val (by kernel_rfl) (some 30) rfl (.int .i64 P.length) (by kernel_rfl) ?_
      simp only [pu1, pu2, pu3, pu4]
      refine gw_val (by kernel_rfl) (some 8) rfl (.int .i64 P.length) (by kernel_rfl) ?_
      simp only [pu1, pu2, pu3, pu4]
      apply wpList_nil
      by_cases hn1 : 1 < P.length
      · skip
        go_upto_region 5 with fail
        apply wp_region_lit
        refine gw_val (by kernel_rfl) (some 31) rfl (.int .i64 P.length) (by kernel_rfl) ?_
        simp only [pu1, pu2, pu3, pu4]
        refine gw_val (by kernel_rfl) (some 32) rfl (.bool true) (gtr_n rfl (P.length) (1) (decide_eq_true (by omega)) (by kernel_rfl) (by kernel_rfl) _) ?_
        simp only [pu1, pu2, pu3, pu4]
        apply wpList_nil
        obtain ⟨n, hnn⟩ : ∃ n, P.length = n := ⟨_, rfl⟩
        have HNN := Lib.hid hnn
        have HN10 : Hid (n ≤ 10 ∧ 1 < n) := Lib.hid ⟨by have := HMP.out.l; omega, by omega⟩
        have CP := mk_place x0 (n - 1 : Nat) W5 (by omega) (by have := HN10.out; omega)
        have hpr := pl_range x0 ((n - 1 : Nat) : Int) (by omega)
        obtain ⟨x, hx⟩ : ∃ x : Nat, pl x0 ((n - 1 : Nat) : Int) = x := ⟨(pl x0 ((n - 1 : Nat) : Int)).toNat, by omega⟩
        rw [hx] at CP hpr
        have HXN : Hid (x < n ∧ n - 1 < n) := Lib.hid ⟨by omega, by omega⟩
        rw [hnn] at HR7 ⊢
        obtain ⟨g7, e7, -, -⟩ := own_at (show W5.ownsRow W2.heap.size 28 3 (.slice a7 n c7) n (acc P) by have := HR7.out; unfold RowA at this; rw [hnn] at this; exact this) (by omega)
        subst e7
        obtain ⟨y, hy⟩ : ∃ y, n - 1 = y := ⟨_, rfl⟩
        have HYN := Lib.hid hy
        rw [hy] at CP HXN
        have h0 : KX W5 W2.heap.size g7 n c7 P x y (aca P x) (aca P y) false false false false W5.drew := ⟨(Below.refl _ W5).drew, (fun e => nomatch e), (fun e => nomatch e), (fun e => nomatch e), fun _ => own_below HR7.out (Below.refl _ W5).drew, (fun e => nomatch e), (fun e => nomatch e)⟩
        clear hx hpr hnn hy hn1
        go_upto_region 6 with fail
        apply wp_region_lit
        refine gw_val (by kernel_rfl) (some 33) rfl (.int .i64 x0) (by kernel_rfl) ?_
        simp only [pu1, pu2, pu3, pu4]
        refine gw_val (by kernel_rfl) (some 34) rfl (.int .i64 n) (by kernel_rfl) ?_
        simp only [pu1, pu2, pu3, pu4]
        refine gw_val (by kernel_rfl) (some 35) rfl (.int .i64 (y : Nat)) (by rw [← HYN.out]; exact sub_1 rfl n (by have := HN10.out; omega) (by have := HN10.out; omega) (by kernel_rfl) (by kernel_rfl) _) ?_
        simp only [pu1, pu2, pu3, pu4]
        refine gw_call (by kernel_rfl) (some 36) rfl 12 #[.int .i64 x0, .int .i64 (y : Nat)] (.int .i64 x) (fun w' => W5 = w') (by kernel_rfl) (CP) (fun V9 hV9 => ?_)
        subst hV9
        simp only [pu1, pu2, pu3, pu4]
        refine gw_val (by kernel_rfl) (some 9) rfl (.int .i64 x) (by kernel_rfl) ?_
        simp only [pu1, pu2, pu3, pu4]
        apply wpList_nil
        clear CP
        go_upto_region 7 with fail
        refine wp_region_inv (fun listed act9 V => ∃ b0 b1 b2 b3 b4 b5 b6 b7 b8 b9 b10 b11 b12 b13 b14 b15 b16 b17 : Bool, listed = #[b0, b1, b2, b3, b4, b5, b6, b7, b8, b9, b10, b11, b12, b13, b14, b15, b16, b17] ∧ act9 = { tmps := #[.slice la A.length lk, .slice ak L.length ck, .int .i64 x0, undef, undef, undef, .bool false, .slice (some ⟨g7, 0, none⟩) n c7, .int .i64 n, .int .i64 x, undef, undef, undef, undef, undef, undef, .slice ak L.length ck, .slice (some ⟨w.heap.size, 0, none⟩) 1 1, .bool false, .bool false, .slice la A.length lk, .bool false, .bool false, undef, .slice (some ⟨g3, 0, none⟩) 0 0, .slice ak L.length ck, .agg (lgA ma n mk mc), .slice ma n mk, .slice (some ⟨g7, 0, none⟩) n c7, .slice (some ⟨g7, 0, none⟩) n c7, .int .i64 n, .int .i64 n, .bool true, .int .i64 x0, .int .i64 n, .int .i64 (y : Nat), .int .i64 x, (cond b0 (.slice (some ⟨g7, 0, none⟩) n c7) undef), (cond b1 (.int .i64 x) undef), (cond b2 (.slice (some ⟨g7, 0, none⟩) n c7) undef), (cond b3 (.int .i64 n) undef), (cond b4 (.int .i64 (y : Nat)) undef), (cond b5 (.slice (some ⟨g7, 0, none⟩) n c7) undef), (cond b6 (.int .i64 n) undef), (cond b7 (.int .i64 (y : Nat)) undef), (cond b8 (.pointer (some ⟨g7, 0 + y * 3, none⟩)) undef), (cond b9 (.agg (acA (aca P y))) undef), (cond b10 (.slice (some ⟨g7, 0, none⟩) n c7) undef), (cond b11 (.int .i64 x) undef), (cond b12 (.pointer (some ⟨g7, 0 + x * 3, none⟩)) undef), (cond b13 (.agg (acA (aca P x))) undef), (cond b14 (.pointer (some ⟨g7, 0 + x * 3, none⟩)) undef), (cond b16 (.pointer (some ⟨g7, 0 + y * 3, none⟩)) undef), undef, undef, undef, undef, undef, undef, undef, undef, undef, undef, undef, undef, undef, undef, undef, undef, undef, undef, undef, undef, undef, undef, undef, undef, undef, undef, undef, undef, undef, undef, undef, undef, undef, undef], defers := [] } ∧ KX W5 W2.heap.size g7 n c7 P x y (aca P x) (aca P y) b9 b13 b15 b17 V) (by kernel_rfl) (by kernel_rfl) ?_ ?_ ?_
        · exact ⟨false, false, false, false, false, false, false, false, false, false, false, false, false, false, false, false, false, false, rfl, rfl, h0⟩
        · intro i9 listed act9 V hi9 hr hJ
          obtain ⟨b0, b1, b2, b3, b4, b5, b6, b7, b8, b9, b10, b11, b12, b13, b14, b15, b16, b17, rfl, rfl, hF⟩ := hJ
          have hi2 : i9 < 18 := hi9
          have hi3 : i9 = 0 ∨ i9 = 1 ∨ i9 = 2 ∨ i9 = 3 ∨ i9 = 4 ∨ i9 = 5 ∨ i9 = 6 ∨ i9 = 7 ∨ i9 = 8 ∨ i9 = 9 ∨ i9 = 10 ∨ i9 = 11 ∨ i9 = 12 ∨ i9 = 13 ∨ i9 = 14 ∨ i9 = 15 ∨ i9 = 16 ∨ i9 = 17 := by omega
          rcases hi3 with rfl | rfl | rfl | rfl | rfl | rfl | rfl | rfl | rfl | rfl | rfl | rfl | rfl | rfl | rfl | rfl | rfl | rfl
          · obtain rfl : b0 = false := ready_self hr
            refine st_val rfl (by kernel_rfl) (some 37) rfl (.slice (some ⟨g7, 0, none⟩) n c7) V (by kernel_rfl) ?_
            exact ⟨true, b1, b2, b3, b4, b5, b6, b7, b8, b9, b10, b11, b12, b13, b14, b15, b16, b17, rfl, rfl, hF⟩
          · obtain rfl : b1 = false := ready_self hr
            refine st_val rfl (by kernel_rfl) (some 38) rfl (.int .i64 x) V (by kernel_rfl) ?_
            exact ⟨b0, true, b2, b3, b4, b5, b6, b7, b8, b9, b10, b11, b12, b13, b14, b15, b16, b17, rfl, rfl, hF⟩
          · obtain rfl : b2 = false := ready_self hr
            refine st_val rfl (by kernel_rfl) (some 39) rfl (.slice (some ⟨g7, 0, none⟩) n c7) V (by kernel_rfl) ?_
            exact ⟨b0, b1, true, b3, b4, b5, b6, b7, b8, b9, b10, b11, b12, b13, b14, b15, b16, b17, rfl, rfl, hF⟩
          · obtain rfl : b3 = false := ready_self hr
            refine st_val rfl (by kernel_rfl) (some 40) rfl (.int .i64 n) V (by kernel_rfl) ?_
            exact ⟨b0, b1, b2, true, b4, b5, b6, b7, b8, b9, b10, b11, b12, b13, b14, b15, b16, b17, rfl, rfl, hF⟩
          · obtain rfl : b4 = false := ready_self hr
            obtain rfl : b3 = true := ready_dep hr 3 (by kernel_rfl)
            refine st_val rfl (by kernel_rfl) (some 41) rfl (.int .i64 (y : Nat)) V (by rw [← HYN.out]; exact sub_1 rfl n (by have := HN10.out; omega) (by have := HN10.out; omega) (by kernel_rfl) (by kernel_rfl) _) ?_
            exact ⟨b0, b1, b2, true, true, b5, b6, b7, b8, b9, b10, b11, b12, b13, b14, b15, b16, b17, rfl, rfl, hF⟩
          · obtain rfl : b5 = false := ready_self hr
            refine st_val rfl (by kernel_rfl) (some 42) rfl (.slice (some ⟨g7, 0, none⟩) n c7) V (by kernel_rfl) ?_
            exact ⟨b0, b1, b2, b3, b4, true, b6, b7, b8, b9, b10, b11, b12, b13, b14, b15, b16, b17, rfl, rfl, hF⟩
          · obtain rfl : b6 = false := ready_self hr
            refine st_val rfl (by kernel_rfl) (some 43) rfl (.int .i64 n) V (by kernel_rfl) ?_
            exact ⟨b0, b1, b2, b3, b4, b5, true, b7, b8, b9, b10, b11, b12, b13, b14, b15, b16, b17, rfl, rfl, hF⟩
          · obtain rfl : b7 = false := ready_self hr
            obtain rfl : b6 = true := ready_dep hr 6 (by kernel_rfl)
            refine st_val rfl (by kernel_rfl) (some 44) rfl (.int .i64 (y : Nat)) V (by rw [← HYN.out]; exact sub_1 rfl n (by have := HN10.out; omega) (by have := HN10.out; omega) (by kernel_rfl) (by kernel_rfl) _) ?_
            exact ⟨b0, b1, b2, b3, b4, b5, true, true, b8, b9, b10, b11, b12, b13, b14, b15, b16, b17, rfl, rfl, hF⟩
          · obtain rfl : b8 = false := ready_self hr
            obtain rfl : b5 = true := ready_dep hr 5 (by kernel_rfl)
            obtain rfl : b7 = true := ready_dep hr 7 (by kernel_rfl)
            refine st_val rfl (by kernel_rfl) (some 45) rfl (.pointer (some ⟨g7, 0 + y * 3, none⟩)) V (idx_ac g7 0 n c7 y HXN.out.2 _ _ _ rfl (by kernel_rfl) (by kernel_rfl)) ?_
            exact ⟨b0, b1, b2, b3, b4, true, b6, true, true, b9, b10, b11, b12, b13, b14, b15, b16, b17, rfl, rfl, hF⟩
          · obtain rfl : b9 = false := ready_self hr
            obtain rfl : b8 = true := ready_dep hr 8 (by kernel_rfl)
            obtain rfl : b15 = false := ff hF.o9 rfl
            refine st_load rfl (by kernel_rfl) (some 46) rfl 28 (.tmp 45) rfl ⟨g7, 0 + y * 3, none⟩ (.agg (acA (aca P y))) (by kernel_rfl) (load_row (hF.r0 rfl) HNN.out.symm (by rw [HNN.out]; exact HXN.out.2)) ?_
            exact ⟨b0, b1, b2, b3, b4, b5, b6, b7, true, true, b10, b11, b12, b13, b14, false, b16, b17, rfl, rfl, { hF with o9 := fun _ => rfl }⟩
          · obtain rfl : b10 = false := ready_self hr
            refine st_val rfl (by kernel_rfl) (some 47) rfl (.slice (some ⟨g7, 0, none⟩) n c7) V (by kernel_rfl) ?_
            exact ⟨b0, b1, b2, b3, b4, b5, b6, b7, b8, b9, true, b11, b12, b13, b14, b15, b16, b17, rfl, rfl, hF⟩
          · obtain rfl : b11 = false := ready_self hr
            refine st_val rfl (by kernel_rfl) (some 48) rfl (.int .i64 x) V (by kernel_rfl) ?_
            exact ⟨b0, b1, b2, b3, b4, b5, b6, b7, b8, b9, b10, true, b12, b13, b14, b15, b16, b17, rfl, rfl, hF⟩
          · obtain rfl : b12 = false := ready_self hr
            obtain rfl : b10 = true := ready_dep hr 10 (by kernel_rfl)
            obtain rfl : b11 = true := ready_dep hr 11 (by kernel_rfl)
            refine st_val rfl (by kernel_rfl) (some 49) rfl (.pointer (some ⟨g7, 0 + x * 3, none⟩)) V (idx_ac g7 0 n c7 x HXN.out.1 _ _ _ rfl (by kernel_rfl) (by kernel_rfl)) ?_
            exact ⟨b0, b1, b2, b3, b4, b5, b6, b7, b8, b9, true, true, true, b13, b14, b15, b16, b17, rfl, rfl, hF⟩
          · obtain rfl : b13 = false := ready_self hr
            obtain rfl : b12 = true := ready_dep hr 12 (by kernel_rfl)
            obtain rfl : b15 = false := ff hF.o13 rfl
            refine st_load rfl (by kernel_rfl) (some 50) rfl 28 (.tmp 49) rfl ⟨g7, 0 + x * 3, none⟩ (.agg (acA (aca P x))) (by kernel_rfl) (load_row (hF.r0 rfl) HNN.out.symm (by rw [HNN.out]; exact HXN.out.1)) ?_
            exact ⟨b0, b1, b2, b3, b4, b5, b6, b7, b8, b9, b10, b11, true, true, b14, false, b16, b17, rfl, rfl, { hF with o13 := fun _ => rfl }⟩
          · obtain rfl : b14 = false := ready_self hr
            obtain rfl : b0 = true := ready_dep hr 0 (by kernel_rfl)
            obtain rfl : b1 = true := ready_dep hr 1 (by kernel_rfl)
            refine st_val rfl (by kernel_rfl) (some 51) rfl (.pointer (some ⟨g7, 0 + x * 3, none⟩)) V (idx_ac g7 0 n c7 x HXN.out.1 _ _ _ rfl (by kernel_rfl) (by kernel_rfl)) ?_
            exact ⟨true, true, b2, b3, b4, b5, b6, b7, b8, b9, b10, b11, b12, b13, true, b15, b16, b17, rfl, rfl, hF⟩
          · obtain rfl : b15 = false := ready_self hr
            obtain rfl : b14 = true := ready_dep hr 14 (by kernel_rfl)
            obtain rfl : b9 = true := ready_dep hr 9 (by kernel_rfl)
            obtain rfl : b13 = true := ready_dep hr 13 (by kernel_rfl)
            obtain rfl : b17 = false := ff hF.o17 rfl
            obtain ⟨V2, hst, hr2, hb2, -⟩ := set_ac (hF.r0 rfl) HNN.out.symm (i := x) (by rw [HNN.out]; exact HXN.out.1) (aca P y)
            refine st_storeA rfl (by kernel_rfl) rfl 28 (.tmp 51) (.tmp 46) rfl (.pointer (some ⟨g7, 0 + x * 3, none⟩)) (.agg (acA (aca P y))) (by kernel_rfl) (by kernel_rfl) _ hst ?_
            exact ⟨b0, b1, b2, b3, b4, b5, b6, b7, b8, true, b10, b11, b12, true, true, true, b16, false, rfl, rfl, ⟨hF.bel.trans hb2, fun _ => rfl, fun _ => rfl, (fun e => nomatch e), (fun e => nomatch e), fun _ _ => hr2, (fun e => nomatch e)⟩⟩
          · obtain rfl : b16 = false := ready_self hr
            obtain rfl : b2 = true := ready_dep hr 2 (by kernel_rfl)
            obtain rfl : b4 = true := ready_dep hr 4 (by kernel_rfl)
            refine st_val rfl (by kernel_rfl) (some 52) rfl (.pointer (some ⟨g7, 0 + y * 3, none⟩)) V (idx_ac g7 0 n c7 y HXN.out.2 _ _ _ rfl (by kernel_rfl) (by kernel_rfl)) ?_
            exact ⟨b0, b1, true, b3, true, b5, b6, b7, b8, b9, b10, b11, b12, b13, b14, b15, true, b17, rfl, rfl, hF⟩
          · obtain rfl : b17 = false := ready_self hr
            obtain rfl : b16 = true := ready_dep hr 16 (by kernel_rfl)
            obtain rfl : b13 = true := ready_dep hr 13 (by kernel_rfl)
            obtain rfl : b15 = true := ready_dep hr 15 (by kernel_rfl)
            obtain ⟨V2, hst, hr2, hb2, -⟩ := set_ac (hF.r1 rfl rfl) (by rw [List.length_set]; exact HNN.out.symm) (i := y) (by rw [List.length_set, HNN.out]; exact HXN.out.2) (aca P x)
            refine st_storeA rfl (by kernel_rfl) rfl 28 (.tmp 52) (.tmp 50) rfl (.pointer (some ⟨g7, 0 + y * 3, none⟩)) (.agg (acA (aca P x))) (by kernel_rfl) (by kernel_rfl) _ hst ?_
            exact ⟨b0, b1, b2, b3, b4, b5, b6, b7, b8, b9, b10, b11, b12, true, b14, true, true, true, rfl, rfl, ⟨hF.bel.trans hb2, hF.o9, hF.o13, fun _ => rfl, (fun e => nomatch e), (fun _ e => nomatch e), fun _ => hr2⟩⟩
        · intro act9 V hJ
          obtain ⟨b0, b1, b2, b3, b4, b5, b6, b7, b8, b9, b10, b11, b12, b13, b14, b15, b16, b17, he, rfl, hF⟩ := hJ
          have he : (#[true, true, true, true, true, true, true, true, true, true, true, true, true, true, true, true, true, true] : Array Bool) = #[b0, b1, b2, b3, b4, b5, b6, b7, b8, b9, b10, b11, b12, b13, b14, b15, b16, b17] := he
          simp only [Array.mk.injEq, List.cons.injEq, and_true] at he
          obtain ⟨rfl, rfl, rfl, rfl, rfl, rfl, rfl, rfl, rfl, rfl, rfl, rfl, rfl, rfl, rfl, rfl, rfl, rfl⟩ := he
          simp only [cond_true]
          have hr9 := hF.r2 rfl
          have hMQ : MQ ((P.set x (aca P y)).set y (aca P x)) := ⟨acw_of fun q hq => (List.mem_or_eq_of_mem_set hq).elim (fun h => (List.mem_or_eq_of_mem_set h).elim (acw_mem HMP.out.w q) (fun e => e ▸ acw_mem HMP.out.w _ (aca_mem (by rw [HNN.out]; exact HXN.out.2)))) (fun e => e ▸ acw_mem HMP.out.w _ (aca_mem (by rw [HNN.out]; exact HXN.out.1))),
            fun q hq => (List.mem_or_eq_of_mem_set hq).elim (fun h => (List.mem_or_eq_of_mem_set h).elim (HMP.out.z q) (fun e => e ▸ HMP.out.z _ (aca_mem (by rw [HNN.out]; exact HXN.out.2)))) (fun e => e ▸ HMP.out.z _ (aca_mem (by rw [HNN.out]; exact HXN.out.1))), by rw [List.length_set, List.length_set]; exact HMP.out.l⟩
          have hlM : ((P.set x (aca P y)).set y (aca P x)).length = n := by rw [List.length_set, List.length_set]; exact HNN.out
          generalize (P.set x (aca P y)).set y (aca P x) = M at *
          have HMQ := Lib.hid hMQ
          have HBV := Lib.hid (HB5.out.trans (hF.bel.mono HWB.out))
          have HLV : Hid (Cs V la (acc A)) := Lib.hid (HL2.out V (hF.bel))
          obtain ⟨am, cm, em, hcm, -⟩ := own_cs hr9
          simp only [Value.slice.injEq] at em
          obtain ⟨ham, -, hcc⟩ := em
          have HM : Hid (Cs V am (acc M)) := Lib.hid hcm
          rw [show (Value.slice (some ⟨g7, 0, none⟩) n c7) = .slice am M.length cm by rw [ham, hcc, hlM]]
          clear hF h0 hr9 hMQ hcm ham hcc hlM
          have hnl := nil_ac V
          have hb8 : Below V.heap.size V (V.alloc (.cells #[] 28)) := (Below.refl _ V).alloc (Nat.le_refl _) _
          have hr8 : RowA (V.alloc (.cells #[] 28)) V.heap.size (.slice (some ⟨V.heap.size, 0, none⟩) 0 0) [] := own_nil V 28 3
          generalize V.alloc (.cells #[] 28) = W8 at *
          obtain ⟨g8, hg8⟩ : ∃ g8, V.heap.size = g8 := ⟨_, rfl⟩
          have HB8 := Lib.hid (HBV.out.trans (hb8.mono HBV.out.size))
          have hms8 := HM.out.below hb8
          have hla8 := HLV.out.below hb8
          have hs8 := hb8.size
          obtain ⟨a5, c5, W9, hap5, hr9, hb9, -, -⟩ := app_ac hr8 hb8.size am cm M hms8 (by have := HMQ.out.l; simp only [List.length_nil]; omega)
          simp only [List.length_nil, Nat.zero_add] at hap5 hr9
          rw [List.nil_append] at hr9
          have hla9 := HLV.out.below (hb8.trans hb9)
          obtain ⟨a6, c6, W10, hap6, hr10, hb10, -, -⟩ := app_ac hr9 (by have := hb9.size; omega) la lk A hla9 (by have := HMQ.out.l; have := HAL.out; omega)
          have hb810 := hb8.trans (hb9.trans hb10)
          have hc10 : Cs W10 a6 (acc (M ++ A)) := by
            obtain ⟨a9, c9, e9, h9, -⟩ := own_cs (show W10.ownsRow V.heap.size 28 3 (.slice a6 (M.length + A.length) c6) (M ++ A).length (acc (M ++ A)) from hr10)
            simp only [Value.slice.injEq] at e9
            obtain ⟨rfl, -, -⟩ := e9
            exact h9
          have hbu := build_3s (.slice la A.length lk) (.slice am M.length cm) (.slice a6 (M.length + A.length) c6) W10 rfl rfl rfl (la, lk, A) (am, cm, M) (a6, c6, M ++ A) rfl rfl (by simp only [List.length_append])
          have hb11 : Below W10.heap.size W10 (W10.alloc (.cells (sls [(la, lk, A), (am, cm, M), (a6, c6, M ++ A)]).toArray 22)) := (Below.refl _ W10).alloc (Nat.le_refl _) _
          have hX11 : Bx (W10.alloc (.cells (sls [(la, lk, A), (am, cm, M), (a6, c6, M ++ A)]).toArray 22)) W10.heap.size (sls [(la, lk, A), (am, cm, M), (a6, c6, M ++ A)]).toArray 22 := heap_alloc_last W10 _
          generalize W10.alloc (.cells (sls [(la, lk, A), (am, cm, M), (a6, c6, M ++ A)]).toArray 22) = W11 at *
          have hbV11 := hb810.trans (hb11.mono hb810.size)
          have HB11 := Lib.hid (HBV.out.trans (hbV11.mono HBV.out.size))
          have HSQ : Hid (∀ k, k < 3 → ∃ s, [(la, lk, A), (am, cm, M), (a6, c6, M ++ A)][k]? = some s ∧ SQ W11 s) := Lib.hid fun k hk => by
            have hz20 : ∀ x, x ∈ M → x.1.size ≤ 140737488355328 := fun x hx => Nat.le_trans (HMQ.out.z x hx) (by decide)
            rcases (show k = 0 ∨ k = 1 ∨ k = 2 by omega) with rfl | rfl | rfl
            · exact ⟨_, rfl, HLV.out.below hbV11, by have := HAL.out; show A.length ≤ _; omega, HAW.out, HAZ.out⟩
            · exact ⟨_, rfl, HM.out.below hbV11, by have := HMQ.out.l; show M.length ≤ _; omega, HMQ.out.w, hz20⟩
            · exact ⟨_, rfl, hc10.below hb11, by have := HMQ.out.l; have := HAL.out; show (M ++ A).length ≤ _; rw [List.length_append]; omega, acw_of (mem_ins (acw_mem HMQ.out.w) (acw_mem HAW.out)), mem_ins hz20 HAZ.out⟩
          generalize [(la, lk, A), (am, cm, M), (a6, c6, M ++ A)] = SL at *
          obtain ⟨g11, hg11⟩ : ∃ g11, W10.heap.size = g11 := ⟨_, rfl⟩
          rw [hg11] at hX11 hbu
          rw [hg8] at hnl hap5
          have HX11 := Lib.hid hX11
          clear hb8 hr8 hms8 hla8 hla9 hr9 hb9 hr10 hb10 hb810 hc10 hb11 hbV11 hX11 hg8 hg11 hs8 HB8 HBV HM HLV
          go_upto_region 8 with fail
          apply wp_region_lit
          refine gw_val (by kernel_rfl) (some 53) rfl (.slice la A.length lk) (by kernel_rfl) ?_
          simp only [pu1, pu2, pu3, pu4]
          refine gw_val (by kernel_rfl) (some 54) rfl (.slice am M.length cm) (by kernel_rfl) ?_
          simp only [pu1, pu2, pu3, pu4]
          refine gw_build (by kernel_rfl) (some 55) rfl 22 0 #[] rfl #[] (by kernel_rfl) (.slice (some ⟨g8, 0, none⟩) 0 0) _ hnl ?_
          simp only [pu1, pu2, pu3, pu4]
          refine gw_val (by kernel_rfl) (some 56) rfl (.slice am M.length cm) (by kernel_rfl) ?_
          simp only [pu1, pu2, pu3, pu4]
          refine append_step rfl (some 57) rfl 22 rfl (.tmp 55) (.tmp 56) 22 rfl (.slice (some ⟨g8, 0, none⟩) 0 0) (.slice am M.length cm) (.slice a5 M.length c5) W9 (by kernel_rfl) (by kernel_rfl) hap5 ?_
          simp only [pu1, pu2, pu3, pu4]
          refine gw_val (by kernel_rfl) (some 58) rfl (.slice la A.length lk) (by kernel_rfl) ?_
          simp only [pu1, pu2, pu3, pu4]
          refine append_step rfl (some 59) rfl 22 rfl (.tmp 57) (.tmp 58) 22 rfl (.slice a5 M.length c5) (.slice la A.length lk) (.slice a6 (M.length + A.length) c6) W10 (by kernel_rfl) (by kernel_rfl) hap6 ?_
          simp only [pu1, pu2, pu3, pu4]
          refine gw_build (by kernel_rfl) (some 60) rfl 40 3 #[(0, .tmp 53), (1, .tmp 54), (2, .tmp 59)] rfl #[(0, .slice la A.length lk), (1, .slice am M.length cm), (2, .slice a6 (M.length + A.length) c6)] (by kernel_rfl) (.slice (some ⟨g11, 0, none⟩) 3 3) _ hbu ?_
          simp only [pu1, pu2, pu3, pu4]
          refine gw_val (by kernel_rfl) (some 61) rfl (.int .i64 3) (by kernel_rfl) ?_
          simp only [pu1, pu2, pu3, pu4]
          refine gw_val (by kernel_rfl) (some 62) rfl (.int .i64 0) (by kernel_rfl) ?_
          simp only [pu1, pu2, pu3, pu4]
          apply wpList_nil
          clear hnl hap5 hap6 hbu
          go_wp2_with fail
          go_loopg [62] 3 (fun gg s62 wx => ∃ j : Nat, s62 = .int .i64 j ∧ j ≤ 3 ∧ Hid (Below W11.heap.size W11 wx) ∧ 3 - j = gg)
          case atStart => exact ⟨0, rfl, by omega, Lib.hid (Below.refl _ _), by omega⟩
          case round =>
            obtain ⟨j, rfl, hj, HB, hg⟩ := hrel
            have HG := Lib.hid hg
            clear hg
            have HBW := Lib.hid (HB11.out.trans (HB.out.mono HB11.out.size))
            by_cases hlt : j < 3
            · skip
              obtain ⟨s, hs, hsq⟩ := HSQ.out j hlt
              have HLS : Hid ((Instr.loadAt 22 (.pointer (some ⟨g11, 0 + j, none⟩))).run Try.prog wr = .ok (.slice s.1 s.2.2.length s.2.1) wr) := Lib.hid (by rw [Nat.zero_add]; exact (HX11.out.below HX11.out.lt HB.out).load (by rw [List.getElem?_toArray]; exact sls_at hs) (by kernel_rfl))
              obtain ⟨sa, ks, S⟩ := s
              have HSS := Lib.hid hsq
              have C1 := q_genesis sa ks S wr (hsq.cs.below HB.out) hsq.l hsq.w hsq.z
              obtain ⟨r, hr⟩ : ∃ r, genY S = r := ⟨_, rfl⟩
              rw [hr] at C1
              have HR := Lib.hid hr
              obtain ⟨Q, dd, ee⟩ := r
              have HQL : Hid (Q.length ≤ 256) := Lib.hid (by have := gen_256 S; rw [hr] at this; exact this)
              clear hs hsq hr
              go_upto_region 9 with fail
              apply wp_region_lit
              refine gw_val (by kernel_rfl) (some 63) rfl (.bool true) (lss_n rfl (j) (3) (decide_eq_true (by omega)) (by kernel_rfl) (by kernel_rfl) _) ?_
              simp only [pu1, pu2, pu3, pu4]
              apply wpList_nil
              go_upto_region 10 with fail
              apply wp_region_lit
              refine gw_val (by kernel_rfl) (some 64) rfl (.pointer (some ⟨g11, 0 + j, none⟩)) (idx_as g11 0 3 3 j hlt _ _ _ rfl (by kernel_rfl) (by kernel_rfl)) ?_
              simp only [pu1, pu2, pu3, pu4]
              refine gw_load (by kernel_rfl) (some 65) rfl 22 (.tmp 64) rfl ⟨g11, 0 + j, none⟩ (.slice sa S.length ks) (by kernel_rfl) (HLS.out) ?_
              simp only [pu1, pu2, pu3, pu4]
              refine gw_val (by kernel_rfl) (some 11) rfl (.slice sa S.length ks) (by kernel_rfl) ?_
              simp only [pu1, pu2, pu3, pu4]
              apply wpList_nil
              clear HLS
              go_upto_region 11 with fail
              apply wp_region_lit
              refine gw_val (by kernel_rfl) (some 67) rfl (.slice sa S.length ks) (by kernel_rfl) ?_
              simp only [pu1, pu2, pu3, pu4]
              refine gw_callE (by kernel_rfl) (some 68) rfl 17 #[.slice sa S.length ks] (fun v w' => ∃ ad kk, v = .tuple #[.agg (lgA ad Q.length kk dd), .int .i64 ee] ∧ Cs w' ad (acc Q) ∧ Q.length ≤ kk ∧ Below wr.heap.size wr w') (by kernel_rfl) ((C1).mono fun e w' q => by obtain ⟨ad, kk, h1, h2, h3⟩ := q; obtain ⟨a9, c9, e9, h4, h5⟩ := own_cs h2; simp only [Value.slice.injEq, true_and] at e9; obtain ⟨rfl, rfl⟩ := e9; exact ⟨_, h1, ad, kk, rfl, h4, h5, h3⟩) (fun vv V1 hq => ?_)
              obtain ⟨a1, k1, rfl, hcV1, hkV1, hbV1⟩ := hq
              obtain ⟨V2, hst2, hb2, hbx2⟩ := new_lg V1 a1 Q.length k1 dd
              simp only [pu1, pu2, pu3, pu4]
              refine gw_val (by kernel_rfl) (some 66) rfl (.tuple #[.agg (lgA a1 Q.length k1 dd), .int .i64 ee]) (by kernel_rfl) ?_
              simp only [pu1, pu2, pu3, pu4]
              refine gw_val (by kernel_rfl) (some 69) rfl (.agg (lgA a1 Q.length k1 dd)) (by kernel_rfl) ?_
              simp only [pu1, pu2, pu3, pu4]
              refine gw_val (by kernel_rfl) (some 70) rfl (.int .i64 ee) (by kernel_rfl) ?_
              simp only [pu1, pu2, pu3, pu4]
              refine run_to rfl (some 12) rfl (.pointer (some ⟨V1.heap.size, 0, none⟩)) (V1.alloc (.cells (lgA none 0 0 0) 25)) (by kernel_rfl) ?_
              simp only [pu1, pu2, pu3, pu4]
              refine gw_store (by kernel_rfl) rfl 25 (.tmp 12) (.tmp 69) rfl (.pointer (some ⟨V1.heap.size, 0, none⟩)) (.agg (lgA a1 Q.length k1 dd)) (by kernel_rfl) (by kernel_rfl) (V2) (hst2) ?_
              refine gw_val (by kernel_rfl) (some 13) rfl (.int .i64 ee) (by kernel_rfl) ?_
              simp only [pu1, pu2, pu3, pu4]
              apply wpList_nil
              obtain ⟨g12, hg12⟩ : ∃ g, V1.heap.size = g := ⟨_, rfl⟩
              have hb12 := hbV1.trans (hb2.mono hbV1.size)
              have HX12 := Lib.hid hbx2
              have HC1 := Lib.hid (hcV1.below hb2)
              have HB2n := Lib.hid (HB.out.trans (hb12.mono HB.out.size))
              rw [hg12] at HX12 ⊢
              have C2 := ref_genesis sa ks S V2 (HSS.out.cs.below HB2n.out) HSS.out.l HSS.out.w HSS.out.z
              rw [HR.out] at C2
              clear hbx2 hb2 hbV1 hcV1 hkV1 hst2 hg12 hb12 C1
              go_upto_region 12 with fail
              apply wp_region_lit
              refine gw_val (by kernel_rfl) (some 72) rfl (.slice sa S.length ks) (by kernel_rfl) ?_
              simp only [pu1, pu2, pu3, pu4]
              refine gw_callE (by kernel_rfl) (some 73) rfl 18 #[.slice sa S.length ks] (fun v w' => ∃ ad kk, v = .tuple #[.agg (lgA ad Q.length kk dd), .int .i64 ee] ∧ Cs w' ad (acc Q) ∧ Q.length ≤ kk ∧ Below V2.heap.size V2 w') (by kernel_rfl) ((C2).mono fun e w' q => by obtain ⟨ad, kk, h1, h2, h3⟩ := q; obtain ⟨a9, c9, e9, h4, h5⟩ := own_cs h2; simp only [Value.slice.injEq, true_and] at e9; obtain ⟨rfl, rfl⟩ := e9; exact ⟨_, h1, ad, kk, rfl, h4, h5, h3⟩) (fun vv V3 hq => ?_)
              obtain ⟨a2, k2, rfl, hcV3, hkV3, hbV3⟩ := hq
              obtain ⟨V4, hst4, hb4, hbx4⟩ := new_lg V3 a2 Q.length k2 dd
              simp only [pu1, pu2, pu3, pu4]
              refine gw_val (by kernel_rfl) (some 71) rfl (.tuple #[.agg (lgA a2 Q.length k2 dd), .int .i64 ee]) (by kernel_rfl) ?_
              simp only [pu1, pu2, pu3, pu4]
              refine gw_val (by kernel_rfl) (some 74) rfl (.agg (lgA a2 Q.length k2 dd)) (by kernel_rfl) ?_
              simp only [pu1, pu2, pu3, pu4]
              refine gw_val (by kernel_rfl) (some 75) rfl (.int .i64 ee) (by kernel_rfl) ?_
              simp only [pu1, pu2, pu3, pu4]
              refine run_to rfl (some 14) rfl (.pointer (some ⟨V3.heap.size, 0, none⟩)) (V3.alloc (.cells (lgA none 0 0 0) 25)) (by kernel_rfl) ?_
              simp only [pu1, pu2, pu3, pu4]
              refine gw_store (by kernel_rfl) rfl 25 (.tmp 14) (.tmp 74) rfl (.pointer (some ⟨V3.heap.size, 0, none⟩)) (.agg (lgA a2 Q.length k2 dd)) (by kernel_rfl) (by kernel_rfl) (V4) (hst4) ?_
              refine gw_val (by kernel_rfl) (some 15) rfl (.int .i64 ee) (by kernel_rfl) ?_
              simp only [pu1, pu2, pu3, pu4]
              apply wpList_nil
              obtain ⟨g14, hg14⟩ : ∃ g, V3.heap.size = g := ⟨_, rfl⟩
              have hb34 := hbV3.trans (hb4.mono hbV3.size)
              have HX14 := Lib.hid hbx4
              have HX124 := Lib.hid (HX12.out.below HX12.out.lt hb34)
              have HB4n := Lib.hid (HB2n.out.trans (hb34.mono HB2n.out.size))
              have CE := ref_sameled Q dd a1 a2 k1 k2 V4 (HC1.out.below hb34) (hcV3.below hb4) (by have := HQL.out; omega)
              rw [hg14] at HX14 ⊢
              clear hbx4 hb4 hbV3 hcV3 hkV3 hst4 hg14 hb34 C2 HX12 HC1 HB2n
              go_upto_region 13 with fail
              apply wp_region_lit
              refine gw_val (by kernel_rfl) (some 76) rfl (.int .i64 ee) (by kernel_rfl) ?_
              simp only [pu1, pu2, pu3, pu4]
              refine gw_val (by kernel_rfl) (some 77) rfl (.int .i64 ee) (by kernel_rfl) ?_
              simp only [pu1, pu2, pu3, pu4]
              refine gw_val (by kernel_rfl) (some 78) rfl (.bool false) (neq_e rfl ee ee (decide_eq_true rfl) (by kernel_rfl) (by kernel_rfl) _) ?_
              simp only [pu1, pu2, pu3, pu4]
              refine gw_val (by kernel_rfl) (some 79) rfl (.bool false) (by kernel_rfl) ?_
              simp only [pu1, pu2, pu3, pu4]
              refine gw_load (by kernel_rfl) (some 80) rfl 25 (.tmp 12) rfl ⟨g12, 0, none⟩ (.agg (lgA a1 Q.length k1 dd)) (by kernel_rfl) (load_lg HX124.out) ?_
              simp only [pu1, pu2, pu3, pu4]
              refine gw_load (by kernel_rfl) (some 81) rfl 25 (.tmp 14) rfl ⟨g14, 0, none⟩ (.agg (lgA a2 Q.length k2 dd)) (by kernel_rfl) (load_lg HX14.out) ?_
              simp only [pu1, pu2, pu3, pu4]
              refine gw_call (by kernel_rfl) (some 82) rfl 19 #[.agg (lgA a1 Q.length k1 dd), .agg (lgA a2 Q.length k2 dd)] (.bool true) (fun w' => Below V4.heap.size V4 w') (by kernel_rfl) (CE) (fun V5 h5 => ?_)
              have HB5n := Lib.hid (HB4n.out.trans (h5.mono HB4n.out.size))
              simp only [pu1, pu2, pu3, pu4]
              refine gw_val (by kernel_rfl) (some 83) rfl (.bool false) (by kernel_rfl) ?_
              simp only [pu1, pu2, pu3, pu4]
              refine gw_val (by kernel_rfl) (some 84) rfl (.bool false) (by kernel_rfl) ?_
              simp only [pu1, pu2, pu3, pu4]
              apply wpList_nil
              clear CE h5 HX124 HX14 HB4n
              go_upto_region 15 with fail
              apply wp_region_lit
              refine gw_val (by kernel_rfl) (some 85) rfl (.int .i64 (j + 1 : Nat)) (add_nat rfl j 1 (by omega) (by kernel_rfl) (by kernel_rfl) _) ?_
              simp only [pu1, pu2, pu3, pu4]
              refine gw_val (by kernel_rfl) (some 62) rfl (.int .i64 (j + 1 : Nat)) (by kernel_rfl) ?_
              simp only [pu1, pu2, pu3, pu4]
              apply wpList_nil
              go_wp2_with fail
              go_roundg (3 - (j + 1))
              case measure => have := HG.out; omega
              case rel => exact ⟨j + 1, rfl, hlt, HB5n, rfl⟩
            · skip
              go_upto_region 9 with fail
              apply wp_region_lit
              refine gw_val (by kernel_rfl) (some 63) rfl (.bool false) (lss_n rfl (j) (3) (decide_eq_false (by omega)) (by kernel_rfl) (by kernel_rfl) _) ?_
              simp only [pu1, pu2, pu3, pu4]
              apply wpList_nil
              go_upto_region 16 with fail
              apply wp_region_lit
              refine gw_call (by kernel_rfl) (some 86) rfl 10 #[] (.bool true) (fun w' => Below w.heap.size w w') (by kernel_rfl) (HK.out wr (HBW.out)) (fun V9 hV9 => ?_)
              simp only [pu1, pu2, pu3, pu4]
              refine gw_val (by kernel_rfl) (some 6) rfl (.bool true) (by kernel_rfl) ?_
              simp only [pu1, pu2, pu3, pu4]
              apply wpList_nil
              have HE := Lib.hid hV9
              clear hV9
              go_wp2_with fail
              go_ret
              exact ⟨rfl, HE.out⟩
      · skip
        go_upto_region 5 with fail
        apply wp_region_lit
        refine gw_val (by kernel_rfl) (some 31) rfl (.int .i64 P.length) (by kernel_rfl) ?_
        simp only [pu1, pu2, pu3, pu4]
        refine gw_val (by kernel_rfl) (some 32) rfl (.bool false) (gtr_n rfl (P.length) (1) (decide_eq_false (by omega)) (by kernel_rfl) (by kernel_rfl) _) ?_
        simp only [pu1, pu2, pu3, pu4]
        apply wpList_nil
        have HMQ := HMP
        have HBV := HB5
        have HLV := HLA5
        obtain ⟨am, cm, em, hcm, -⟩ := own_cs HR7.out
        simp only [Value.slice.injEq, true_and] at em
        obtain ⟨rfl, rfl⟩ := em
        have HM := Lib.hid hcm
        generalize hPM : P = M at *
        clear hcm
        have hnl := nil_ac W5
        have hb8 : Below W5.heap.size W5 (W5.alloc (.cells #[] 28)) := (Below.refl _ W5).alloc (Nat.le_refl _) _
        have hr8 : RowA (W5.alloc (.cells #[] 28)) W5.heap.size (.slice (some ⟨W5.heap.size, 0, none⟩) 0 0) [] := own_nil W5 28 3
        generalize W5.alloc (.cells #[] 28) = W8 at *
        obtain ⟨g8, hg8⟩ : ∃ g8, W5.heap.size = g8 := ⟨_, rfl⟩
        have HB8 := Lib.hid (HBV.out.trans (hb8.mono HBV.out.size))
        have hms8 := HM.out.below hb8
        have hla8 := HLV.out.below hb8
        have hs8 := hb8.size
        obtain ⟨a5, c5, W9, hap5, hr9, hb9, -, -⟩ := app_ac hr8 hb8.size a7 c7 M hms8 (by have := HMQ.out.l; simp only [List.length_nil]; omega)
        simp only [List.length_nil, Nat.zero_add] at hap5 hr9
        rw [List.nil_append] at hr9
        have hla9 := HLV.out.below (hb8.trans hb9)
        obtain ⟨a6, c6, W10, hap6, hr10, hb10, -, -⟩ := app_ac hr9 (by have := hb9.size; omega) la lk A hla9 (by have := HMQ.out.l; have := HAL.out; omega)
        have hb810 := hb8.trans (hb9.trans hb10)
        have hc10 : Cs W10 a6 (acc (M ++ A)) := by
          obtain ⟨a9, c9, e9, h9, -⟩ := own_cs (show W10.ownsRow W5.heap.size 28 3 (.slice a6 (M.length + A.length) c6) (M ++ A).length (acc (M ++ A)) from hr10)
          simp only [Value.slice.injEq] at e9
          obtain ⟨rfl, -, -⟩ := e9
          exact h9
        have hbu := build_3s (.slice la A.length lk) (.slice a7 M.length c7) (.slice a6 (M.length + A.length) c6) W10 rfl rfl rfl (la, lk, A) (a7, c7, M) (a6, c6, M ++ A) rfl rfl (by simp only [List.length_append])
        have hb11 : Below W10.heap.size W10 (W10.alloc (.cells (sls [(la, lk, A), (a7, c7, M), (a6, c6, M ++ A)]).toArray 22)) := (Below.refl _ W10).alloc (Nat.le_refl _) _
        have hX11 : Bx (W10.alloc (.cells (sls [(la, lk, A), (a7, c7, M), (a6, c6, M ++ A)]).toArray 22)) W10.heap.size (sls [(la, lk, A), (a7, c7, M), (a6, c6, M ++ A)]).toArray 22 := heap_alloc_last W10 _
        generalize W10.alloc (.cells (sls [(la, lk, A), (a7, c7, M), (a6, c6, M ++ A)]).toArray 22) = W11 at *
        have hbV11 := hb810.trans (hb11.mono hb810.size)
        have HB11 := Lib.hid (HBV.out.trans (hbV11.mono HBV.out.size))
        have HSQ : Hid (∀ k, k < 3 → ∃ s, [(la, lk, A), (a7, c7, M), (a6, c6, M ++ A)][k]? = some s ∧ SQ W11 s) := Lib.hid fun k hk => by
          have hz20 : ∀ x, x ∈ M → x.1.size ≤ 140737488355328 := fun x hx => Nat.le_trans (HMQ.out.z x hx) (by decide)
          rcases (show k = 0 ∨ k = 1 ∨ k = 2 by omega) with rfl | rfl | rfl
          · exact ⟨_, rfl, HLV.out.below hbV11, by have := HAL.out; show A.length ≤ _; omega, HAW.out, HAZ.out⟩
          · exact ⟨_, rfl, HM.out.below hbV11, by have := HMQ.out.l; show M.length ≤ _; omega, HMQ.out.w, hz20⟩
          · exact ⟨_, rfl, hc10.below hb11, by have := HMQ.out.l; have := HAL.out; show (M ++ A).length ≤ _; rw [List.length_append]; omega, acw_of (mem_ins (acw_mem HMQ.out.w) (acw_mem HAW.out)), mem_ins hz20 HAZ.out⟩
        generalize [(la, lk, A), (a7, c7, M), (a6, c6, M ++ A)] = SL at *
        obtain ⟨g11, hg11⟩ : ∃ g11, W10.heap.size = g11 := ⟨_, rfl⟩
        rw [hg11] at hX11 hbu
        rw [hg8] at hnl hap5
        have HX11 := Lib.hid hX11
        clear hb8 hr8 hms8 hla8 hla9 hr9 hb9 hr10 hb10 hb810 hc10 hb11 hbV11 hX11 hg8 hg11 hs8 HB8 HBV HM HLV
        go_upto_region 8 with fail
        apply wp_region_lit
        refine gw_val (by kernel_rfl) (some 53) rfl (.slice la A.length lk) (by kernel_rfl) ?_
        simp only [pu1, pu2, pu3, pu4]
        refine gw_val (by kernel_rfl) (some 54) rfl (.slice a7 M.length c7) (by kernel_rfl) ?_
        simp only [pu1, pu2, pu3, pu4]
        refine gw_build (by kernel_rfl) (some 55) rfl 22 0 #[] rfl #[] (by kernel_rfl) (.slice (some ⟨g8, 0, none⟩) 0 0) _ hnl ?_
        simp only [pu1, pu2, pu3, pu4]
        refine gw_val (by kernel_rfl) (some 56) rfl (.slice a7 M.length c7) (by kernel_rfl) ?_
        simp only [pu1, pu2, pu3, pu4]
        refine append_step rfl (some 57) rfl 22 rfl (.tmp 55) (.tmp 56) 22 rfl (.slice (some ⟨g8, 0, none⟩) 0 0) (.slice a7 M.length c7) (.slice a5 M.length c5) W9 (by kernel_rfl) (by kernel_rfl) hap5 ?_
        simp only [pu1, pu2, pu3, pu4]
        refine gw_val (by kernel_rfl) (some 58) rfl (.slice la A.length lk) (by kernel_rfl) ?_
        simp only [pu1, pu2, pu3, pu4]
        refine append_step rfl (some 59) rfl 22 rfl (.tmp 57) (.tmp 58) 22 rfl (.slice a5 M.length c5) (.slice la A.length lk) (.slice a6 (M.length + A.length) c6) W10 (by kernel_rfl) (by kernel_rfl) hap6 ?_
        simp only [pu1, pu2, pu3, pu4]
        refine gw_build (by kernel_rfl) (some 60) rfl 40 3 #[(0, .tmp 53), (1, .tmp 54), (2, .tmp 59)] rfl #[(0, .slice la A.length lk), (1, .slice a7 M.length c7), (2, .slice a6 (M.length + A.length) c6)] (by kernel_rfl) (.slice (some ⟨g11, 0, none⟩) 3 3) _ hbu ?_
        simp only [pu1, pu2, pu3, pu4]
        refine gw_val (by kernel_rfl) (some 61) rfl (.int .i64 3) (by kernel_rfl) ?_
        simp only [pu1, pu2, pu3, pu4]
        refine gw_val (by kernel_rfl) (some 62) rfl (.int .i64 0) (by kernel_rfl) ?_
        simp only [pu1, pu2, pu3, pu4]
        apply wpList_nil
        clear hnl hap5 hap6 hbu
        go_wp2_with fail
        go_loopg [62] 3 (fun gg s62 wx => ∃ j : Nat, s62 = .int .i64 j ∧ j ≤ 3 ∧ Hid (Below W11.heap.size W11 wx) ∧ 3 - j = gg)
        case atStart => exact ⟨0, rfl, by omega, Lib.hid (Below.refl _ _), by omega⟩
        case round =>
          obtain ⟨j, rfl, hj, HB, hg⟩ := hrel
          have HG := Lib.hid hg
          clear hg
          have HBW := Lib.hid (HB11.out.trans (HB.out.mono HB11.out.size))
          by_cases hlt : j < 3
          · skip
            obtain ⟨s, hs, hsq⟩ := HSQ.out j hlt
            have HLS : Hid ((Instr.loadAt 22 (.pointer (some ⟨g11, 0 + j, none⟩))).run Try.prog wr = .ok (.slice s.1 s.2.2.length s.2.1) wr) := Lib.hid (by rw [Nat.zero_add]; exact (HX11.out.below HX11.out.lt HB.out).load (by rw [List.getElem?_toArray]; exact sls_at hs) (by kernel_rfl))
            obtain ⟨sa, ks, S⟩ := s
            have HSS := Lib.hid hsq
            have C1 := q_genesis sa ks S wr (hsq.cs.below HB.out) hsq.l hsq.w hsq.z
            obtain ⟨r, hr⟩ : ∃ r, genY S = r := ⟨_, rfl⟩
            rw [hr] at C1
            have HR := Lib.hid hr
            obtain ⟨Q, dd, ee⟩ := r
            have HQL : Hid (Q.length ≤ 256) := Lib.hid (by have := gen_256 S; rw [hr] at this; exact this)
            clear hs hsq hr
            go_upto_region 9 with fail
            apply wp_region_lit
            refine gw_val (by kernel_rfl) (some 63) rfl (.bool true) (lss_n rfl (j) (3) (decide_eq_true (by omega)) (by kernel_rfl) (by kernel_rfl) _) ?_
            simp only [pu1, pu2, pu3, pu4]
            apply wpList_nil
            go_upto_region 10 with fail
            apply wp_region_lit
            refine gw_val (by kernel_rfl) (some 64) rfl (.pointer (some ⟨g11, 0 + j, none⟩)) (idx_as g11 0 3 3 j hlt _ _ _ rfl (by kernel_rfl) (by kernel_rfl)) ?_
            simp only [pu1, pu2, pu3, pu4]
            refine gw_load (by kernel_rfl) (some 65) rfl 22 (.tmp 64) rfl ⟨g11, 0 + j, none⟩ (.slice sa S.length ks) (by kernel_rfl) (HLS.out) ?_
            simp only [pu1, pu2, pu3, pu4]
            refine gw_val (by kernel_rfl) (some 11) rfl (.slice sa S.length ks) (by kernel_rfl) ?_
            simp only [pu1, pu2, pu3, pu4]
            apply wpList_nil
            clear HLS
            go_upto_region 11 with fail
            apply wp_region_lit
            refine gw_val (by kernel_rfl) (some 67) rfl (.slice sa S.length ks) (by kernel_rfl) ?_
            simp only [pu1, pu2, pu3, pu4]
            refine gw_callE (by kernel_rfl) (some 68) rfl 17 #[.slice sa S.length ks] (fun v w' => ∃ ad kk, v = .tuple #[.agg (lgA ad Q.length kk dd), .int .i64 ee] ∧ Cs w' ad (acc Q) ∧ Q.length ≤ kk ∧ Below wr.heap.size wr w') (by kernel_rfl) ((C1).mono fun e w' q => by obtain ⟨ad, kk, h1, h2, h3⟩ := q; obtain ⟨a9, c9, e9, h4, h5⟩ := own_cs h2; simp only [Value.slice.injEq, true_and] at e9; obtain ⟨rfl, rfl⟩ := e9; exact ⟨_, h1, ad, kk, rfl, h4, h5, h3⟩) (fun vv V1 hq => ?_)
            obtain ⟨a1, k1, rfl, hcV1, hkV1, hbV1⟩ := hq
            obtain ⟨V2, hst2, hb2, hbx2⟩ := new_lg V1 a1 Q.length k1 dd
            simp only [pu1, pu2, pu3, pu4]
            refine gw_val (by kernel_rfl) (some 66) rfl (.tuple #[.agg (lgA a1 Q.length k1 dd), .int .i64 ee]) (by kernel_rfl) ?_
            simp only [pu1, pu2, pu3, pu4]
            refine gw_val (by kernel_rfl) (some 69) rfl (.agg (lgA a1 Q.length k1 dd)) (by kernel_rfl) ?_
            simp only [pu1, pu2, pu3, pu4]
            refine gw_val (by kernel_rfl) (some 70) rfl (.int .i64 ee) (by kernel_rfl) ?_
            simp only [pu1, pu2, pu3, pu4]
            refine run_to rfl (some 12) rfl (.pointer (some ⟨V1.heap.size, 0, none⟩)) (V1.alloc (.cells (lgA none 0 0 0) 25)) (by kernel_rfl) ?_
            simp only [pu1, pu2, pu3, pu4]
            refine gw_store (by kernel_rfl) rfl 25 (.tmp 12) (.tmp 69) rfl (.pointer (some ⟨V1.heap.size, 0, none⟩)) (.agg (lgA a1 Q.length k1 dd)) (by kernel_rfl) (by kernel_rfl) (V2) (hst2) ?_
            refine gw_val (by kernel_rfl) (some 13) rfl (.int .i64 ee) (by kernel_rfl) ?_
            simp only [pu1, pu2, pu3, pu4]
            apply wpList_nil
            obtain ⟨g12, hg12⟩ : ∃ g, V1.heap.size = g := ⟨_, rfl⟩
            have hb12 := hbV1.trans (hb2.mono hbV1.size)
            have HX12 := Lib.hid hbx2
            have HC1 := Lib.hid (hcV1.below hb2)
            have HB2n := Lib.hid (HB.out.trans (hb12.mono HB.out.size))
            rw [hg12] at HX12 ⊢
            have C2 := ref_genesis sa ks S V2 (HSS.out.cs.below HB2n.out) HSS.out.l HSS.out.w HSS.out.z
            rw [HR.out] at C2
            clear hbx2 hb2 hbV1 hcV1 hkV1 hst2 hg12 hb12 C1
            go_upto_region 12 with fail
            apply wp_region_lit
            refine gw_val (by kernel_rfl) (some 72) rfl (.slice sa S.length ks) (by kernel_rfl) ?_
            simp only [pu1, pu2, pu3, pu4]
            refine gw_callE (by kernel_rfl) (some 73) rfl 18 #[.slice sa S.length ks] (fun v w' => ∃ ad kk, v = .tuple #[.agg (lgA ad Q.length kk dd), .int .i64 ee] ∧ Cs w' ad (acc Q) ∧ Q.length ≤ kk ∧ Below V2.heap.size V2 w') (by kernel_rfl) ((C2).mono fun e w' q => by obtain ⟨ad, kk, h1, h2, h3⟩ := q; obtain ⟨a9, c9, e9, h4, h5⟩ := own_cs h2; simp only [Value.slice.injEq, true_and] at e9; obtain ⟨rfl, rfl⟩ := e9; exact ⟨_, h1, ad, kk, rfl, h4, h5, h3⟩) (fun vv V3 hq => ?_)
            obtain ⟨a2, k2, rfl, hcV3, hkV3, hbV3⟩ := hq
            obtain ⟨V4, hst4, hb4, hbx4⟩ := new_lg V3 a2 Q.length k2 dd
            simp only [pu1, pu2, pu3, pu4]
            refine gw_val (by kernel_rfl) (some 71) rfl (.tuple #[.agg (lgA a2 Q.length k2 dd), .int .i64 ee]) (by kernel_rfl) ?_
            simp only [pu1, pu2, pu3, pu4]
            refine gw_val (by kernel_rfl) (some 74) rfl (.agg (lgA a2 Q.length k2 dd)) (by kernel_rfl) ?_
            simp only [pu1, pu2, pu3, pu4]
            refine gw_val (by kernel_rfl) (some 75) rfl (.int .i64 ee) (by kernel_rfl) ?_
            simp only [pu1, pu2, pu3, pu4]
            refine run_to rfl (some 14) rfl (.pointer (some ⟨V3.heap.size, 0, none⟩)) (V3.alloc (.cells (lgA none 0 0 0) 25)) (by kernel_rfl) ?_
            simp only [pu1, pu2, pu3, pu4]
            refine gw_store (by kernel_rfl) rfl 25 (.tmp 14) (.tmp 74) rfl (.pointer (some ⟨V3.heap.size, 0, none⟩)) (.agg (lgA a2 Q.length k2 dd)) (by kernel_rfl) (by kernel_rfl) (V4) (hst4) ?_
            refine gw_val (by kernel_rfl) (some 15) rfl (.int .i64 ee) (by kernel_rfl) ?_
            simp only [pu1, pu2, pu3, pu4]
            apply wpList_nil
            obtain ⟨g14, hg14⟩ : ∃ g, V3.heap.size = g := ⟨_, rfl⟩
            have hb34 := hbV3.trans (hb4.mono hbV3.size)
            have HX14 := Lib.hid hbx4
            have HX124 := Lib.hid (HX12.out.below HX12.out.lt hb34)
            have HB4n := Lib.hid (HB2n.out.trans (hb34.mono HB2n.out.size))
            have CE := ref_sameled Q dd a1 a2 k1 k2 V4 (HC1.out.below hb34) (hcV3.below hb4) (by have := HQL.out; omega)
            rw [hg14] at HX14 ⊢
            clear hbx4 hb4 hbV3 hcV3 hkV3 hst4 hg14 hb34 C2 HX12 HC1 HB2n
            go_upto_region 13 with fail
            apply wp_region_lit
            refine gw_val (by kernel_rfl) (some 76) rfl (.int .i64 ee) (by kernel_rfl) ?_
            simp only [pu1, pu2, pu3, pu4]
            refine gw_val (by kernel_rfl) (some 77) rfl (.int .i64 ee) (by kernel_rfl) ?_
            simp only [pu1, pu2, pu3, pu4]
            refine gw_val (by kernel_rfl) (some 78) rfl (.bool false) (neq_e rfl ee ee (decide_eq_true rfl) (by kernel_rfl) (by kernel_rfl) _) ?_
            simp only [pu1, pu2, pu3, pu4]
            refine gw_val (by kernel_rfl) (some 79) rfl (.bool false) (by kernel_rfl) ?_
            simp only [pu1, pu2, pu3, pu4]
            refine gw_load (by kernel_rfl) (some 80) rfl 25 (.tmp 12) rfl ⟨g12, 0, none⟩ (.agg (lgA a1 Q.length k1 dd)) (by kernel_rfl) (load_lg HX124.out) ?_
            simp only [pu1, pu2, pu3, pu4]
            refine gw_load (by kernel_rfl) (some 81) rfl 25 (.tmp 14) rfl ⟨g14, 0, none⟩ (.agg (lgA a2 Q.length k2 dd)) (by kernel_rfl) (load_lg HX14.out) ?_
            simp only [pu1, pu2, pu3, pu4]
            refine gw_call (by kernel_rfl) (some 82) rfl 19 #[.agg (lgA a1 Q.length k1 dd), .agg (lgA a2 Q.length k2 dd)] (.bool true) (fun w' => Below V4.heap.size V4 w') (by kernel_rfl) (CE) (fun V5 h5 => ?_)
            have HB5n := Lib.hid (HB4n.out.trans (h5.mono HB4n.out.size))
            simp only [pu1, pu2, pu3, pu4]
            refine gw_val (by kernel_rfl) (some 83) rfl (.bool false) (by kernel_rfl) ?_
            simp only [pu1, pu2, pu3, pu4]
            refine gw_val (by kernel_rfl) (some 84) rfl (.bool false) (by kernel_rfl) ?_
            simp only [pu1, pu2, pu3, pu4]
            apply wpList_nil
            clear CE h5 HX124 HX14 HB4n
            go_upto_region 15 with fail
            apply wp_region_lit
            refine gw_val (by kernel_rfl) (some 85) rfl (.int .i64 (j + 1 : Nat)) (add_nat rfl j 1 (by omega) (by kernel_rfl) (by kernel_rfl) _) ?_
            simp only [pu1, pu2, pu3, pu4]
            refine gw_val (by kernel_rfl) (some 62) rfl (.int .i64 (j + 1 : Nat)) (by kernel_rfl) ?_
            simp only [pu1, pu2, pu3, pu4]
            apply wpList_nil
            go_wp2_with fail
            go_roundg (3 - (j + 1))
            case measure => have := HG.out; omega
            case rel => exact ⟨j + 1, rfl, hlt, HB5n, rfl⟩
          · skip
            go_upto_region 9 with fail
            apply wp_region_lit
            refine gw_val (by kernel_rfl) (some 63) rfl (.bool false) (lss_n rfl (j) (3) (decide_eq_false (by omega)) (by kernel_rfl) (by kernel_rfl) _) ?_
            simp only [pu1, pu2, pu3, pu4]
            apply wpList_nil
            go_upto_region 16 with fail
            apply wp_region_lit
            refine gw_call (by kernel_rfl) (some 86) rfl 10 #[] (.bool true) (fun w' => Below w.heap.size w w') (by kernel_rfl) (HK.out wr (HBW.out)) (fun V9 hV9 => ?_)
            simp only [pu1, pu2, pu3, pu4]
            refine gw_val (by kernel_rfl) (some 6) rfl (.bool true) (by kernel_rfl) ?_
            simp only [pu1, pu2, pu3, pu4]
            apply wpList_nil
            have HE := Lib.hid hV9
            clear hV9
            go_wp2_with fail
            go_ret
            exact ⟨rfl, HE.out⟩
    · skip
      refine gw_val (by kernel_rfl) (some 22) rfl (.bool true) (by kernel_rfl) ?_
      simp only [pu1, pu2, pu3, pu4]
      apply wpList_nil
      go_upto_region 2 with fail
      apply wp_region_lit
      refine gw_call (by kernel_rfl) (some 23) rfl 10 #[] (.bool true) (fun w' => Below w.heap.size w w') (by kernel_rfl) (HK.out W2 (HB2.out)) (fun V9 hV9 => ?_)
      simp only [pu1, pu2, pu3, pu4]
      refine gw_val (by kernel_rfl) (some 6) rfl (.bool true) (by kernel_rfl) ?_
      simp only [pu1, pu2, pu3, pu4]
      apply wpList_nil
      have HE := Lib.hid hV9
      clear hV9
      go_wp2_with fail
      go_ret
      exact ⟨rfl, HE.out⟩
end Go.Proofs.Ytebnlklodokhkaa
