/-
  Configurations stored; the reference's set: contract.
-/
import Derived.Test.YtplfineaomneiaaDoorRD
namespace Go.Proofs.YtplfineaomneiaaDoor
attribute [local irreducible] wpList wpQuiet
open Go.RowKit
set_option maxRecDepth 100000
set_option linter.unusedSimpArgs false
set_option linter.unusedVariables false

/-- A configuration is stored in a box, and is there. -/
def StA (X : Array Value) : Prop := ∀ (V : World) (g : Nat) (Y : Array Value), Y.size = 12 → Bx V g Y 24 → ∃ V2, (Instr.storeAt 24 (.pointer (some ⟨g, 0, none⟩)) (.agg X)).run Tryd.prog V = .ok () V2 ∧ (Instr.loadAt 24 (.pointer (some ⟨g, 0, none⟩))).run Tryd.prog V2 = .ok (.agg X) V2 ∧ Bx V2 g X 24 ∧ But g V V2
theorem sta (c : List Int) : StA (cfA c) := fun V g Y hz h => by
  obtain ⟨V2, h1, h2, h3⟩ := st_all (cs' := cfA c) (ty := 24) h hz (by kernel_rfl) (by kernel_rfl)
  exact ⟨V2, h1, load_C h2, h2, h3⟩
def LdA (X : Array Value) : Prop := ∀ (V : World) (g : Nat), Bx V g X 24 → (Instr.loadAt 24 (.pointer (some ⟨g, 0, none⟩))).run Tryd.prog V = .ok (.agg X) V
theorem lda (c : List Int) : LdA (cfA c) := fun V g h => load_C h
theorem set8 {c : List Int} (hc : c.length = 12) (n : Int) : (cfA c).setIfInBounds 8 (.int .i64 n) = cfA (c.set 8 n) := by
  obtain ⟨x0, x1, x2, x3, x4, x5, x6, x7, x8, x9, x10, x11, rfl⟩ := cf_all hc
  rfl
theorem set9 {c : List Int} (hc : c.length = 12) (n : Int) : (cfA c).setIfInBounds 9 (.int .u64 n) = cfA (c.set 9 n) := by
  obtain ⟨x0, x1, x2, x3, x4, x5, x6, x7, x8, x9, x10, x11, rfl⟩ := cf_all hc
  rfl
theorem cv_wi {ρ : Operand → Value} {o : Oper} {x : Operand} (ho : o.op = .convert 22 3 x) (a : Nat) (h : a < 9223372036854775808) (hx : ρ x = .int .u64 a) (w : World) : (execOp ρ o).run Tryd.prog w = .ok (.value (.int .i64 a)) w := by
 have e : IntKind.i64.wrap (a : Int) = a := by rw [IntKind.wrap_i64]; omega
 unfold execOp
 simp only [ho, hx]
 go_simp
theorem dval_pos {L : List Int} (h : digitsX L = true) : 0 ≤ dval L := by
  unfold digitsX at h
  rw [Bool.and_eq_true, List.all_eq_true] at h
  exact dvalF_ge L 0 (fun x hx => by
    have := h.1 x hx
    rw [Bool.and_eq_true, decide_eq_true_eq] at this
    exact this.1) (Int.le_refl 0)
theorem great_rng : ∀ i, i < 12 → 0 ≤ greatL.getD i 0 ∧ greatL.getD i 0 ≤ 1125899906842624 := by decide
theorem least_rng : ∀ i, i < 12 → -1 ≤ leastL.getD i 0 ∧ leastL.getD i 0 ≤ 1 := by decide
section
variable {c L : List Int} {i : Nat}
theorem setX_8 (h : i = 8) (hs : L = [45, 49]) : setX c i L = (c.set 8 (-1), 0) := by unfold setX; rw [if_pos ⟨h, hs⟩]
theorem setX_syn (h : ¬ (i = 8 ∧ L = [45, 49])) (hd : digitsX L = false) : setX c i L = (c, 2) := by unfold setX; rw [if_neg h, if_pos hd]
theorem setX_in (h : ¬ (i = 8 ∧ L = [45, 49])) (hd : digitsX L = true) (hr : inR i (dval L) = true) : setX c i L = (c.set i (dval L), 0) := by unfold setX; rw [if_neg h, if_neg (by rw [hd]; exact Bool.noConfusion), if_pos hr]
theorem setX_out (h : ¬ (i = 8 ∧ L = [45, 49])) (hd : digitsX L = true) (hr : inR i (dval L) = false) : setX c i L = (c, 1) := by unfold setX; rw [if_neg h, if_neg (by rw [hd]; exact Bool.noConfusion), if_neg (by rw [hr]; exact Bool.false_ne_true)]
theorem inR_9 {n : Int} (h0 : 0 ≤ n) (h1 : n < 18446744073709551616) : inR 9 n = true := by
  unfold inR
  rw [if_pos rfl, decide_eq_true (show leastL.getD 9 0 ≤ n from h0), decide_eq_true (by omega), Bool.true_and]
theorem inR_yes {n : Int} (hi9 : i ≠ 9) (h0 : leastL.getD i 0 ≤ n) (h1 : n ≤ greatL.getD i 0) : inR i n = true := by
  unfold inR
  rw [if_neg hi9, decide_eq_true h0, decide_eq_true h1, Bool.true_and]
theorem inR_no {n : Int} (hi9 : i ≠ 9) (h : ¬ (leastL.getD i 0 ≤ n ∧ n ≤ greatL.getD i 0)) : inR i n = false := by
  unfold inR
  rw [if_neg hi9]
  by_cases h0 : leastL.getD i 0 ≤ n
  · rw [decide_eq_false (show ¬ n ≤ greatL.getD i 0 from fun q => h ⟨h0, q⟩), Bool.and_false]
  · rw [decide_eq_false h0, Bool.false_and]
theorem inR_big {n : Int} (hi : i < 12) (h : ¬ n < 18446744073709551616) : inR i n = false := by
  by_cases h9 : i = 9
  · unfold inR
    rw [if_pos h9, decide_eq_false (show ¬ n ≤ 18446744073709551615 by omega), Bool.and_false]
  · refine inR_no h9 fun q => ?_
    have := great_rng i hi
    omega
end
/-- A read value keeps a configuration good. -/
theorem setX_ok {c L : List Int} {i : Nat} (hc : CfOk c) (hi : i < 12) : CfOk (setX c i L).1 := by
  have key : ∀ (j : Nat) (n : Int), j < 12 → inR j n = true ∨ (j = 8 ∧ n = -1) → CfOk (c.set j n) := by
    intro j n hj hr
    obtain ⟨h1, h6, h9a, h9b, hI⟩ := hc
    have hb : (j = 9 → 0 ≤ n ∧ n < 18446744073709551616) ∧ (j ≠ 9 → -9223372036854775808 ≤ n ∧ n < 9223372036854775808) ∧ (j = 6 → n = 0 ∨ n = 1) := by
      rcases hr with hr | ⟨rfl, rfl⟩
      · unfold inR at hr
        rw [Bool.and_eq_true, decide_eq_true_eq, decide_eq_true_eq] at hr
        have a := great_rng j hj
        have b := least_rng j hj
        refine ⟨fun e => ?_, fun e => ?_, fun e => ?_⟩
        · rw [if_pos e] at hr
          subst e
          have : leastL.getD 9 0 = 0 := rfl
          omega
        · rw [if_neg e] at hr
          omega
        · subst e
          rw [if_neg (by omega)] at hr
          have q1 : leastL.getD 6 0 = 0 := rfl
          have q2 : greatL.getD 6 0 = 1 := rfl
          omega
      · exact ⟨fun e => by omega, fun _ => by omega, fun e => by omega⟩
    have g1 : ∀ k, (c.set j n).getD k 0 = if j = k then n else c.getD k 0 := fun k => by
      by_cases e : j = k
      · subst e
        rw [if_pos rfl, getD_set_eq _ _ _ _ (by rw [h1]; exact hj)]
      · rw [if_neg e, getD_set_ne _ _ _ _ _ e]
    refine ⟨by rw [List.length_set]; exact h1, ?_, ?_, ?_, ?_⟩
    · rw [g1]; split
      · rename_i e; exact hb.2.2 e
      · exact h6
    · rw [g1]; split
      · rename_i e; exact (hb.1 e).1
      · exact h9a
    · rw [g1]; split
      · rename_i e; exact (hb.1 e).2
      · exact h9b
    · intro k hk hk9
      rw [g1]; split
      · rename_i e; exact hb.2.1 (by omega)
      · exact hI k hk hk9
  unfold setX
  split
  · exact key 8 (-1) (by omega) (.inr ⟨rfl, rfl⟩)
  · split
    · exact hc
    · split
      · rename_i h; exact key i _ hi (.inl h)
      · exact hc
def setV (c : List Int) (i : Nat) (L : List Int) : Value := .tuple #[.agg (cfA (setX c i L).1), .int .i64 (setX c i L).2]
theorem setV_of {c L : List Int} {i : Nat} {d : List Int} {e : Int} (h : setX c i L = (d, e)) : .tuple #[.agg (cfA d), .int .i64 e] = setV c i L := by
  unfold setV
  rw [h]
set_option maxRecDepth 100000 in
set_option maxHeartbeats 8000000 in
theorem r_set {c : List Int} (hc : CfOk c) (i : Nat) (hi : i < 12) (s : ByteArray) (hl : s.size ≤ 1000000) (w : World) : Calls Tryd.prog 56 #[.agg (cfA c), .int .i64 i, .string s] w fun e w' => e = .returned (setV c i (nums s)) ∧ Below w.heap.size w w' := by
  have hm1 : (s = ⟨#[45, 49]⟩) ↔ (nums s = [45, 49]) := ⟨fun e => by rw [e]; rfl, fun e => nums_inj (e.trans rfl)⟩
  have CN := Lib.hid fun V => r_number s hl V
  have CD := Lib.hid fun V => r_digits s hl V
  generalize nums s = L at *
  have H8 : Hid (i = 8 → s = ⟨#[45, 49]⟩ → .tuple #[.agg (cfA (c.set 8 (-1))), .int .i64 0] = setV c i L) := Lib.hid fun h h2 => setV_of (setX_8 h (hm1.1 h2))
  have HN8 : ¬ (i = 8 ∧ s = ⟨#[45, 49]⟩) → ¬ (i = 8 ∧ L = [45, 49]) := fun h h2 => h ⟨h2.1, hm1.2 h2.2⟩
  have HSY : Hid (¬ (i = 8 ∧ s = ⟨#[45, 49]⟩) → digitsX L = false → .tuple #[.agg (cfA c), .int .i64 2] = setV c i L) := Lib.hid fun h h2 => setV_of (setX_syn (HN8 h) h2)
  have HBI : Hid (¬ (i = 8 ∧ s = ⟨#[45, 49]⟩) → digitsX L = true → ¬ dval L < 18446744073709551616 → .tuple #[.agg (cfA c), .int .i64 1] = setV c i L) := Lib.hid fun h h2 h3 => setV_of (setX_out (HN8 h) h2 (inR_big hi h3))
  have HPR : Hid (¬ (i = 8 ∧ s = ⟨#[45, 49]⟩) → digitsX L = true → dval L < 18446744073709551616 → i = 9 → .tuple #[.agg (cfA (c.set 9 (dval L))), .int .i64 0] = setV c i L) := Lib.hid fun h h2 h3 h9 => by
    have q := setV_of (c := c) (setX_in (c := c) (HN8 h) h2 (by rw [h9]; exact inR_9 (dval_pos h2) h3))
    rw [← q, h9]
  have HOU : Hid (¬ (i = 8 ∧ s = ⟨#[45, 49]⟩) → digitsX L = true → i ≠ 9 → ¬ (leastL.getD i 0 ≤ dval L ∧ dval L ≤ greatL.getD i 0) → .tuple #[.agg (cfA c), .int .i64 1] = setV c i L) := Lib.hid fun h h2 h9 h3 => setV_of (setX_out (HN8 h) h2 (inR_no h9 h3))
  have HIN : Hid (¬ (i = 8 ∧ s = ⟨#[45, 49]⟩) → digitsX L = true → i ≠ 9 → leastL.getD i 0 ≤ dval L → dval L ≤ greatL.getD i 0 → .tuple #[.agg (cfA (c.set i (dval L))), .int .i64 0] = setV c i L) := Lib.hid fun h h2 h9 h3 h4 => setV_of (setX_in (HN8 h) h2 (inR_yes h9 h3 h4))
  have HWI : Hid (i ≠ 9 → ∀ n V, Calls Tryd.prog 70 #[.agg (cfA c), .int .i64 i, .int .i64 n] V fun e w' => e = .returned (.agg (cfA (c.set i n))) ∧ Below V.heap.size V w') := Lib.hid fun h9 n V => r_with hc.1 i hi h9 n V
  have HG1 := great_rng i hi
  have HG2 := least_rng i hi
  have CG := Lib.hid fun V => r_great i hi V
  have CLE := Lib.hid fun V => r_least i hi V
  have HD0 : Hid (digitsX L = true → 0 ≤ dval L) := Lib.hid fun h => dval_pos h
  have A0 := Lib.hid (sta c)
  have A8 := Lib.hid (sta (c.set 8 (-1)))
  have A9 := Lib.hid fun n => sta (c.set 9 n)
  have AI := Lib.hid fun n => sta (c.set i n)
  have L0 := Lib.hid (lda c)
  have L8 := Lib.hid (lda (c.set 8 (-1)))
  have L9 := Lib.hid fun n => lda (c.set 9 n)
  have E8 := Lib.hid (set8 hc.1 (-1))
  have E9 := Lib.hid fun n => set9 hc.1 n
  obtain ⟨ZV, hZV⟩ : ∃ ZV, setV c i L = ZV := ⟨_, rfl⟩
  rw [hZV] at H8 HSY HBI HPR HOU HIN ⊢
  obtain ⟨C8, hC8⟩ : ∃ X, cfA (c.set 8 (-1)) = X := ⟨_, rfl⟩
  rw [hC8] at H8 A8 L8 E8
  obtain ⟨F9, hF9⟩ : ∃ F : Int → Array Value, (fun n => cfA (c.set 9 n)) = F := ⟨_, rfl⟩
  have e9 : ∀ n, cfA (c.set 9 n) = F9 n := fun n => congrFun hF9 n
  simp only [e9] at HPR A9 L9 E9
  obtain ⟨FI, hFI⟩ : ∃ F : Int → Array Value, (fun n => cfA (c.set i n)) = F := ⟨_, rfl⟩
  have eI : ∀ n, cfA (c.set i n) = FI n := fun n => congrFun hFI n
  simp only [eI] at HIN HWI AI
  clear hZV hC8 hF9 hFI e9 eI HN8 hm1 hc
  have hCZ : (cfA c).size = 12 := rfl
  generalize cfA c = CC at *
  generalize leastL.getD i 0 = lo at *
  generalize greatL.getD i 0 = up at *
  have HCZ := Lib.hid hCZ
  clear hCZ
  go_enter Tryd.func56, Tryd.ntmps56
  go_upto_region 1 with fail
  change Code.wp _ _ _ _ ((w.alloc (.cells CC 24)).alloc (.cells #[.int .i64 0, .int .i64 0, .int .i64 0, .int .i64 0, .int .i64 0, .int .i64 0, .bool false, .int .i64 0, .int .i64 0, .int .u64 0, .int .i64 0, .int .i64 0] 24))
  have hb_0 : Below w.heap.size w (w.alloc (.cells CC 24)) := (Below.refl _ w).alloc (Nat.le_refl _) _
  have hX3 : Bx (w.alloc (.cells CC 24)) w.heap.size CC 24 := heap_alloc_last w _
  have hs_0 : (w.alloc (.cells CC 24)).heap.size = w.heap.size + 1 := by simp
  generalize w.alloc (.cells CC 24) = W0_ at *
  have hb_1 : Below w.heap.size w (W0_.alloc (.cells #[.int .i64 0, .int .i64 0, .int .i64 0, .int .i64 0, .int .i64 0, .int .i64 0, .bool false, .int .i64 0, .int .i64 0, .int .u64 0, .int .i64 0, .int .i64 0] 24)) := hb_0.alloc hb_0.size _
  have hX3 := hX3.below hX3.lt ((Below.refl _ W0_).alloc (Nat.le_refl _) (.cells #[.int .i64 0, .int .i64 0, .int .i64 0, .int .i64 0, .int .i64 0, .int .i64 0, .bool false, .int .i64 0, .int .i64 0, .int .u64 0, .int .i64 0, .int .i64 0] 24))
  have hX6 : Bx (W0_.alloc (.cells #[.int .i64 0, .int .i64 0, .int .i64 0, .int .i64 0, .int .i64 0, .int .i64 0, .bool false, .int .i64 0, .int .i64 0, .int .u64 0, .int .i64 0, .int .i64 0] 24)) W0_.heap.size #[.int .i64 0, .int .i64 0, .int .i64 0, .int .i64 0, .int .i64 0, .int .i64 0, .bool false, .int .i64 0, .int .i64 0, .int .u64 0, .int .i64 0, .int .i64 0] 24 := heap_alloc_last W0_ _
  have hs_1 : (W0_.alloc (.cells #[.int .i64 0, .int .i64 0, .int .i64 0, .int .i64 0, .int .i64 0, .int .i64 0, .bool false, .int .i64 0, .int .i64 0, .int .u64 0, .int .i64 0, .int .i64 0] 24)).heap.size = W0_.heap.size + 1 := by simp
  generalize W0_.alloc (.cells #[.int .i64 0, .int .i64 0, .int .i64 0, .int .i64 0, .int .i64 0, .int .i64 0, .bool false, .int .i64 0, .int .i64 0, .int .u64 0, .int .i64 0, .int .i64 0] 24) = W at *
  obtain ⟨g3, hg3⟩ : ∃ g, w.heap.size = g := ⟨_, rfl⟩
  rw [hg3] at hX3
  obtain ⟨g6, hg6⟩ : ∃ g, W0_.heap.size = g := ⟨_, rfl⟩
  rw [hg6] at hX6
  have hq1 : w.heap.size + 1 = g6 := by omega
  have HGE : Hid (g3 = w.heap.size + 0 ∧ g6 = w.heap.size + 1 ∧ W.heap.size = w.heap.size + 2) := Lib.hid ⟨by omega, by omega, by omega⟩
  have HB := Lib.hid hb_1
  simp only [hg3]
  try simp only [show g3 + 1 = g6 by omega]
  clear hb_0 hs_0 hg3 hb_1 hs_1 hg6 hq1
  by_cases h8 : i = 8
  · skip
    by_cases hs : s = (⟨#[45, 49]⟩ : ByteArray)
    · skip
      obtain rfl := H8.out h8 hs
      go_upto_region 1 with fail
      refine wl <| gz1 (.int .i64 i) <| gzb (eql_nn rfl i 8 (decide_eq_true h8)) <| gz2 (.bool true) (.string s) <| gzw (.bool true) (eql_s rfl s ⟨#[45, 49]⟩ (by rw [beqB]; exact decide_eq_true hs)) <|
        gz1 (.bool true) <| wn ?_
      simp only [pu]
      obtain ⟨V1, hst1, hY3, hbt1⟩ := st_fld (i := 8) (v := .int .i64 (-1)) (ty := 3) C8 hX3 (by rw [HCZ.out]; omega) E8.out rfl (by kernel_rfl)
      have hY6 := hX6.but hbt1 (by have := HGE.out; omega)
      have hbA := HB.out.trans (hbt1.1.mono (by have := HGE.out; omega))
      go_upto_region 2 with fail
      refine wl <| gz1 (.pointer (some ⟨g3, 8, none⟩)) <| gzs rfl (hst1) <| wn ?_
      simp only [pu]
      clear hst1 hbt1 hs h8
      obtain ⟨V9, hst9, hld9, -, hbt9⟩ := A8.out V1 g6 _ rfl hY6
      have HE := Lib.hid (hbA.trans (hbt9.1.mono (by have := HGE.out; omega)))
      go_upto_region 3 with fail
      refine wl <| gzl rfl ⟨g3, 0, none⟩ (.agg C8) (L8.out _ _ hY3) <| gzs rfl (hst9) <| gz1 (.int .i64 0) <| wn ?_
      simp only [pu]
      clear hst9 hbt9 HG1 HG2
      clear H8 HSY HBI HPR HOU HIN HWI
      go_wp2_with fail
      exact bodyPost_ret (results_c (p := 6) rfl (by kernel_rfl) hld9 (by kernel_rfl)) rfl ⟨rfl, HE.out⟩
    · skip
      have HN : Hid (¬ (i = 8 ∧ s = (⟨#[45, 49]⟩ : ByteArray))) := Lib.hid fun q => hs q.2
      go_upto_region 1 with fail
      refine wl <| gz1 (.int .i64 i) <| gzb (eql_nn rfl i 8 (decide_eq_true h8)) <| gz2 (.bool true) (.string s) <| gzw (.bool false) (eql_s rfl s ⟨#[45, 49]⟩ (by rw [beqB]; exact decide_eq_false hs)) <|
        gz1 (.bool false) <| wn ?_
      simp only [pu]
      clear hs h8
      have cn := CN.out W
      cases hd : digitsX L
      · skip
        have cd := CD.out W
        rw [hd] at cd
        rw [show numV L = .tuple #[.int .u64 0, .bool false] by unfold numV; rw [if_neg (by rw [hd]; exact fun q => Bool.false_ne_true q.1)]] at cn
        obtain rfl := HSY.out HN.out hd
        go_upto_region 4 with fail
        refine wl <| gz1 (.string s) <| gzc (.tuple #[.int .u64 0, .bool false]) (fun w' => W = w') (cn) (fun V9 hV9 => ?_)
        subst hV9
        simp only [pu]
        refine gz5 (.tuple #[.int .u64 0, .bool false]) (.int .u64 0) (.bool false) (.int .u64 0) (.bool false) <| wn ?_
        simp only [pu]
        go_upto_region 5 with fail
        refine wl <| gz4 (.bool false) (.bool true) (.bool true) (.string s) <| gzc (.bool false) (fun w' => W = w') (cd) (fun V9 hV9 => ?_)
        subst hV9
        simp only [pu]
        refine gz2 (.bool true) (.bool true) <| wn ?_
        simp only [pu]
        clear cn cd hd
        obtain ⟨V9, hst9, hld9, -, hbt9⟩ := A0.out W g6 _ rfl hX6
        have HE := Lib.hid (HB.out.trans (hbt9.1.mono (by have := HGE.out; omega)))
        go_upto_region 6 with fail
        refine wl <| gzl rfl ⟨g3, 0, none⟩ (.agg CC) (L0.out _ _ hX3) <| gzs rfl (hst9) <| gz1 (.int .i64 2) <| wn ?_
        simp only [pu]
        clear hst9 hbt9 HG1 HG2
        clear H8 HSY HBI HPR HOU HIN HWI
        go_wp2_with fail
        exact bodyPost_ret (results_c (p := 6) rfl (by kernel_rfl) hld9 (by kernel_rfl)) rfl ⟨rfl, HE.out⟩
      · skip
        have cd := CD.out W
        rw [hd] at cd
        have hpos := HD0.out hd
        by_cases hbig : dval L < 18446744073709551616
        · skip
          rw [show numV L = .tuple #[.int .u64 (dval L), .bool true] by unfold numV; rw [if_pos ⟨hd, hbig⟩]] at cn
          have HP2 := Lib.hid (HPR.out HN.out hd hbig)
          have HO2 := Lib.hid (HOU.out HN.out hd)
          have HI2 := Lib.hid (HIN.out HN.out hd)
          clear HSY HBI HPR HOU HIN hd cd CD CN HD0
          obtain ⟨m, hm⟩ : ∃ m : Nat, dval L = (m : Int) := ⟨(dval L).toNat, by omega⟩
          rw [hm] at hbig HP2 HO2 HI2 cn
          have hmx : m < 18446744073709551616 := by omega
          clear hm hpos hbig
          go_upto_region 4 with fail
          refine wl <| gz1 (.string s) <| gzc (.tuple #[.int .u64 m, .bool true]) (fun w' => W = w') (cn) (fun V9 hV9 => ?_)
          subst hV9
          simp only [pu]
          refine gz5 (.tuple #[.int .u64 m, .bool true]) (.int .u64 m) (.bool true) (.int .u64 m) (.bool true) <| wn ?_
          simp only [pu]
          clear cn
          go_upto_region 5 with fail
          refine wl <| gz6 (.bool true) (.bool false) (.bool false) undef undef undef <| gz1 (.bool false) <| wn ?_
          simp only [pu]
          by_cases h9 : i = 9
          · skip
            obtain rfl := HP2.out h9
            obtain ⟨V1, hst1, hY3, hbt1⟩ := st_fld (i := 9) (v := .int .u64 m) (ty := 22) (F9 m) hX3 (by rw [HCZ.out]; omega) (E9.out m) rfl (by kernel_rfl)
            have hY6 := hX6.but hbt1 (by have := HGE.out; omega)
            have hbA := HB.out.trans (hbt1.1.mono (by have := HGE.out; omega))
            go_upto_region 7 with fail
            refine wl <| gz1 (.int .i64 i) <| gzb (eql_nn rfl i 9 (decide_eq_true h9)) <| gz3 (.bool true) (.bool true) (.bool true) <| wn ?_
            simp only [pu]
            go_upto_region 8 with fail
            refine wl <| gz2 (.int .u64 m) (.pointer (some ⟨g3, 9, none⟩)) <| gzs rfl (hst1) <| wn ?_
            simp only [pu]
            clear hst1 hbt1 HO2 HI2 h9
            obtain ⟨V9, hst9, hld9, -, hbt9⟩ := (A9.out m) V1 g6 _ rfl hY6
            have HE := Lib.hid (hbA.trans (hbt9.1.mono (by have := HGE.out; omega)))
            go_upto_region 9 with fail
            refine wl <| gzl rfl ⟨g3, 0, none⟩ (.agg (F9 m)) (L9.out m _ _ hY3) <| gzs rfl (hst9) <| gz1 (.int .i64 0) <| wn ?_
            simp only [pu]
            clear hst9 hbt9 HG1 HG2
            go_wp2_with fail
            exact bodyPost_ret (results_c (p := 6) rfl (by kernel_rfl) hld9 (by kernel_rfl)) rfl ⟨rfl, HE.out⟩
          · skip
            have HO3 := Lib.hid (HO2.out h9)
            have HI3 := Lib.hid (HI2.out h9)
            have cw := HWI.out h9 (m : Int)
            clear HP2 HO2 HI2
            go_upto_region 7 with fail
            refine wl <| gz1 (.int .i64 i) <| gzb (eql_nn rfl i 9 (decide_eq_false h9)) <| gz3 (.bool false) undef (.bool false) <| wn ?_
            simp only [pu]
            have cg := CG.out W
            by_cases hup : up.toNat < m
            · skip
              obtain rfl := HO3.out (fun h => by omega)
              go_upto_region 10 with fail
              refine wl <| gz5 (.bool true) (.bool false) (.bool false) (.int .u64 m) (.int .i64 i) <| gzc (.int .i64 up) (fun w' => Below W.heap.size W w') (cg) (fun V2 hb2 => ?_)
              simp only [pu]
              refine gzv (.int .u64 up.toNat) (cv_iw rfl up HG1.1 (by omega) (by kernel_rfl) _) <| gzb (gtr_wn rfl (m) (up.toNat) (decide_eq_true (hup))) <| gz6 (.bool true) (.bool true) undef undef undef undef <| gz2 undef (.bool true) <| wn ?_
              simp only [pu]
              clear cg cw HO3 HI3 hup
              have hX3b := hX3.below hX3.lt hb2
              have hX6b := hX6.below hX6.lt hb2
              have hbA := HB.out.trans (hb2.mono HB.out.size)
              obtain ⟨V9, hst9, hld9, -, hbt9⟩ := A0.out V2 g6 _ rfl hX6b
              have HE := Lib.hid (hbA.trans (hbt9.1.mono (by have := HGE.out; omega)))
              go_upto_region 11 with fail
              refine wl <| gzl rfl ⟨g3, 0, none⟩ (.agg CC) (L0.out _ _ hX3b) <| gzs rfl (hst9) <| gz1 (.int .i64 1) <| wn ?_
              simp only [pu]
              clear hst9 hbt9 HG1 HG2
              go_wp2_with fail
              exact bodyPost_ret (results_c (p := 6) rfl (by kernel_rfl) hld9 (by kernel_rfl)) rfl ⟨rfl, HE.out⟩
            · skip
              have cl := CLE.out
              by_cases hlo : (m : Int) < lo
              · skip
                obtain rfl := HO3.out (fun h => by omega)
                go_upto_region 10 with fail
                refine wl <| gz5 (.bool true) (.bool false) (.bool false) (.int .u64 m) (.int .i64 i) <| gzc (.int .i64 up) (fun w' => Below W.heap.size W w') (cg) (fun V2 hb2 => ?_)
                simp only [pu]
                refine gzv (.int .u64 up.toNat) (cv_iw rfl up HG1.1 (by omega) (by kernel_rfl) _) <| gzb (gtr_wn rfl (m) (up.toNat) (decide_eq_false (hup))) <| gz3 (.bool false) (.bool false) (.int .u64 m) <|
                  gzv (.int .i64 m) (cv_wi rfl m (by omega) (by kernel_rfl) _) <| gz1 (.int .i64 i) <| gzc (.int .i64 lo) (fun w' => Below V2.heap.size V2 w') (cl V2) (fun V3 hb3 => ?_)
                simp only [pu]
                refine gzb (lss_n rfl (m : Int) lo (decide_eq_true hlo)) <| gz1 (.bool true) <| wn ?_
                simp only [pu]
                have hb23 := hb2.trans (hb3.mono hb2.size)
                have hX3b := hX3.below hX3.lt hb23
                have hX6b := hX6.below hX6.lt hb23
                have hbA := HB.out.trans (hb23.mono HB.out.size)
                clear cg cl cw HO3 HI3 hup hlo hb2 hb3 hb23
                obtain ⟨V9, hst9, hld9, -, hbt9⟩ := A0.out V3 g6 _ rfl hX6b
                have HE := Lib.hid (hbA.trans (hbt9.1.mono (by have := HGE.out; omega)))
                go_upto_region 11 with fail
                refine wl <| gzl rfl ⟨g3, 0, none⟩ (.agg CC) (L0.out _ _ hX3b) <| gzs rfl (hst9) <| gz1 (.int .i64 1) <| wn ?_
                simp only [pu]
                clear hst9 hbt9 HG1 HG2
                go_wp2_with fail
                exact bodyPost_ret (results_c (p := 6) rfl (by kernel_rfl) hld9 (by kernel_rfl)) rfl ⟨rfl, HE.out⟩
              · skip
                obtain rfl := HI3.out (by omega) (by omega)
                go_upto_region 10 with fail
                refine wl <| gz5 (.bool true) (.bool false) (.bool false) (.int .u64 m) (.int .i64 i) <| gzc (.int .i64 up) (fun w' => Below W.heap.size W w') (cg) (fun V2 hb2 => ?_)
                simp only [pu]
                refine gzv (.int .u64 up.toNat) (cv_iw rfl up HG1.1 (by omega) (by kernel_rfl) _) <| gzb (gtr_wn rfl (m) (up.toNat) (decide_eq_false (hup))) <| gz3 (.bool false) (.bool false) (.int .u64 m) <|
                  gzv (.int .i64 m) (cv_wi rfl m (by omega) (by kernel_rfl) _) <| gz1 (.int .i64 i) <| gzc (.int .i64 lo) (fun w' => Below V2.heap.size V2 w') (cl V2) (fun V3 hb3 => ?_)
                simp only [pu]
                refine gzb (lss_n rfl (m : Int) lo (decide_eq_false hlo)) <| gz1 (.bool false) <| wn ?_
                simp only [pu]
                have hb23 := hb2.trans (hb3.mono hb2.size)
                have hX3b := hX3.below hX3.lt hb23
                have hX6b := hX6.below hX6.lt hb23
                have hbA := HB.out.trans (hb23.mono HB.out.size)
                have cw3 := cw V3
                have hm63 : m < 9223372036854775808 := by omega
                clear cg cl cw HO3 HI3 hup hlo hb2 hb3 hb23
                have hl3 := L0.out _ _ hX3b
                go_upto_region 12 with fail
                refine wl <| gzl rfl ⟨g3, 0, none⟩ (.agg CC) (hl3) <| gz2 (.int .i64 i) (.int .u64 m) <| gzv (.int .i64 m) (cv_wi rfl m hm63 (by kernel_rfl) _) <| gzc (.agg (FI m)) (fun w' => Below V3.heap.size V3 w') (cw3) (fun V4 hb4 => ?_)
                have hX6c := hX6b.below hX6b.lt hb4
                have hbB := hbA.trans (hb4.mono hbA.size)
                obtain ⟨V9, hst9, hld9, -, hbt9⟩ := AI.out m V4 g6 _ rfl hX6c
                have HE := Lib.hid (hbB.trans (hbt9.1.mono (by have := HGE.out; omega)))
                simp only [pu]
                refine gzs rfl (hst9) <| gz1 (.int .i64 0) <| wn ?_
                simp only [pu]
                clear hst9 hbt9 HG1 HG2 cw3 hl3
                go_wp2_with fail
                exact bodyPost_ret (results_c (p := 6) rfl (by kernel_rfl) hld9 (by kernel_rfl)) rfl ⟨rfl, HE.out⟩
        · skip
          rw [show numV L = .tuple #[.int .u64 0, .bool false] by unfold numV; rw [if_neg (fun q => hbig q.2)]] at cn
          obtain rfl := HBI.out HN.out hd hbig
          go_upto_region 4 with fail
          refine wl <| gz1 (.string s) <| gzc (.tuple #[.int .u64 0, .bool false]) (fun w' => W = w') (cn) (fun V9 hV9 => ?_)
          subst hV9
          simp only [pu]
          refine gz5 (.tuple #[.int .u64 0, .bool false]) (.int .u64 0) (.bool false) (.int .u64 0) (.bool false) <| wn ?_
          simp only [pu]
          go_upto_region 5 with fail
          refine wl <| gz4 (.bool false) (.bool true) (.bool true) (.string s) <| gzc (.bool true) (fun w' => W = w') (cd) (fun V9 hV9 => ?_)
          subst hV9
          simp only [pu]
          refine gz2 (.bool false) (.bool false) <| wn ?_
          simp only [pu]
          clear cn cd hd hbig hpos
          by_cases h9 : i = 9
          · skip
            go_upto_region 7 with fail
            refine wl <| gz1 (.int .i64 i) <| gzb (eql_nn rfl i 9 (decide_eq_true h9)) <| gz3 (.bool true) (.bool false) (.bool false) <| wn ?_
            simp only [pu]
            clear h9
            go_upto_region 10 with fail
            refine wl <| gz6 (.bool false) (.bool true) (.bool true) undef undef undef <| gz6 undef undef (.bool true) (.bool true) undef undef <| gz4 undef undef undef (.bool true) <| wn ?_
            simp only [pu]
            obtain ⟨V9, hst9, hld9, -, hbt9⟩ := A0.out W g6 _ rfl hX6
            have HE := Lib.hid (HB.out.trans (hbt9.1.mono (by have := HGE.out; omega)))
            go_upto_region 11 with fail
            refine wl <| gzl rfl ⟨g3, 0, none⟩ (.agg CC) (L0.out _ _ hX3) <| gzs rfl (hst9) <| gz1 (.int .i64 1) <| wn ?_
            simp only [pu]
            clear hst9 hbt9 HG1 HG2
            clear H8 HSY HBI HPR HOU HIN HWI
            go_wp2_with fail
            exact bodyPost_ret (results_c (p := 6) rfl (by kernel_rfl) hld9 (by kernel_rfl)) rfl ⟨rfl, HE.out⟩
          · skip
            go_upto_region 7 with fail
            refine wl <| gz1 (.int .i64 i) <| gzb (eql_nn rfl i 9 (decide_eq_false h9)) <| gz3 (.bool false) undef (.bool false) <| wn ?_
            simp only [pu]
            clear h9
            go_upto_region 10 with fail
            refine wl <| gz6 (.bool false) (.bool true) (.bool true) undef undef undef <| gz6 undef undef (.bool true) (.bool true) undef undef <| gz4 undef undef undef (.bool true) <| wn ?_
            simp only [pu]
            obtain ⟨V9, hst9, hld9, -, hbt9⟩ := A0.out W g6 _ rfl hX6
            have HE := Lib.hid (HB.out.trans (hbt9.1.mono (by have := HGE.out; omega)))
            go_upto_region 11 with fail
            refine wl <| gzl rfl ⟨g3, 0, none⟩ (.agg CC) (L0.out _ _ hX3) <| gzs rfl (hst9) <| gz1 (.int .i64 1) <| wn ?_
            simp only [pu]
            clear hst9 hbt9 HG1 HG2
            clear H8 HSY HBI HPR HOU HIN HWI
            go_wp2_with fail
            exact bodyPost_ret (results_c (p := 6) rfl (by kernel_rfl) hld9 (by kernel_rfl)) rfl ⟨rfl, HE.out⟩
  · skip
    have HN : Hid (¬ (i = 8 ∧ s = (⟨#[45, 49]⟩ : ByteArray))) := Lib.hid fun q => h8 q.1
    go_upto_region 1 with fail
    refine wl <| gz1 (.int .i64 i) <| gzb (eql_nn rfl i 8 (decide_eq_false h8)) <| gz4 (.bool false) undef undef (.bool false) <| wn ?_
    simp only [pu]
    clear h8
    have cn := CN.out W
    cases hd : digitsX L
    · skip
      have cd := CD.out W
      rw [hd] at cd
      rw [show numV L = .tuple #[.int .u64 0, .bool false] by unfold numV; rw [if_neg (by rw [hd]; exact fun q => Bool.false_ne_true q.1)]] at cn
      obtain rfl := HSY.out HN.out hd
      go_upto_region 4 with fail
      refine wl <| gz1 (.string s) <| gzc (.tuple #[.int .u64 0, .bool false]) (fun w' => W = w') (cn) (fun V9 hV9 => ?_)
      subst hV9
      simp only [pu]
      refine gz5 (.tuple #[.int .u64 0, .bool false]) (.int .u64 0) (.bool false) (.int .u64 0) (.bool false) <| wn ?_
      simp only [pu]
      go_upto_region 5 with fail
      refine wl <| gz4 (.bool false) (.bool true) (.bool true) (.string s) <| gzc (.bool false) (fun w' => W = w') (cd) (fun V9 hV9 => ?_)
      subst hV9
      simp only [pu]
      refine gz2 (.bool true) (.bool true) <| wn ?_
      simp only [pu]
      clear cn cd hd
      obtain ⟨V9, hst9, hld9, -, hbt9⟩ := A0.out W g6 _ rfl hX6
      have HE := Lib.hid (HB.out.trans (hbt9.1.mono (by have := HGE.out; omega)))
      go_upto_region 6 with fail
      refine wl <| gzl rfl ⟨g3, 0, none⟩ (.agg CC) (L0.out _ _ hX3) <| gzs rfl (hst9) <| gz1 (.int .i64 2) <| wn ?_
      simp only [pu]
      clear hst9 hbt9 HG1 HG2
      clear H8 HSY HBI HPR HOU HIN HWI
      go_wp2_with fail
      exact bodyPost_ret (results_c (p := 6) rfl (by kernel_rfl) hld9 (by kernel_rfl)) rfl ⟨rfl, HE.out⟩
    · skip
      have cd := CD.out W
      rw [hd] at cd
      have hpos := HD0.out hd
      by_cases hbig : dval L < 18446744073709551616
      · skip
        rw [show numV L = .tuple #[.int .u64 (dval L), .bool true] by unfold numV; rw [if_pos ⟨hd, hbig⟩]] at cn
        have HP2 := Lib.hid (HPR.out HN.out hd hbig)
        have HO2 := Lib.hid (HOU.out HN.out hd)
        have HI2 := Lib.hid (HIN.out HN.out hd)
        clear HSY HBI HPR HOU HIN hd cd CD CN HD0
        obtain ⟨m, hm⟩ : ∃ m : Nat, dval L = (m : Int) := ⟨(dval L).toNat, by omega⟩
        rw [hm] at hbig HP2 HO2 HI2 cn
        have hmx : m < 18446744073709551616 := by omega
        clear hm hpos hbig
        go_upto_region 4 with fail
        refine wl <| gz1 (.string s) <| gzc (.tuple #[.int .u64 m, .bool true]) (fun w' => W = w') (cn) (fun V9 hV9 => ?_)
        subst hV9
        simp only [pu]
        refine gz5 (.tuple #[.int .u64 m, .bool true]) (.int .u64 m) (.bool true) (.int .u64 m) (.bool true) <| wn ?_
        simp only [pu]
        clear cn
        go_upto_region 5 with fail
        refine wl <| gz6 (.bool true) (.bool false) (.bool false) undef undef undef <| gz1 (.bool false) <| wn ?_
        simp only [pu]
        by_cases h9 : i = 9
        · skip
          obtain rfl := HP2.out h9
          obtain ⟨V1, hst1, hY3, hbt1⟩ := st_fld (i := 9) (v := .int .u64 m) (ty := 22) (F9 m) hX3 (by rw [HCZ.out]; omega) (E9.out m) rfl (by kernel_rfl)
          have hY6 := hX6.but hbt1 (by have := HGE.out; omega)
          have hbA := HB.out.trans (hbt1.1.mono (by have := HGE.out; omega))
          go_upto_region 7 with fail
          refine wl <| gz1 (.int .i64 i) <| gzb (eql_nn rfl i 9 (decide_eq_true h9)) <| gz3 (.bool true) (.bool true) (.bool true) <| wn ?_
          simp only [pu]
          go_upto_region 8 with fail
          refine wl <| gz2 (.int .u64 m) (.pointer (some ⟨g3, 9, none⟩)) <| gzs rfl (hst1) <| wn ?_
          simp only [pu]
          clear hst1 hbt1 HO2 HI2 h9
          obtain ⟨V9, hst9, hld9, -, hbt9⟩ := (A9.out m) V1 g6 _ rfl hY6
          have HE := Lib.hid (hbA.trans (hbt9.1.mono (by have := HGE.out; omega)))
          go_upto_region 9 with fail
          refine wl <| gzl rfl ⟨g3, 0, none⟩ (.agg (F9 m)) (L9.out m _ _ hY3) <| gzs rfl (hst9) <| gz1 (.int .i64 0) <| wn ?_
          simp only [pu]
          clear hst9 hbt9 HG1 HG2
          go_wp2_with fail
          exact bodyPost_ret (results_c (p := 6) rfl (by kernel_rfl) hld9 (by kernel_rfl)) rfl ⟨rfl, HE.out⟩
        · skip
          have HO3 := Lib.hid (HO2.out h9)
          have HI3 := Lib.hid (HI2.out h9)
          have cw := HWI.out h9 (m : Int)
          clear HP2 HO2 HI2
          go_upto_region 7 with fail
          refine wl <| gz1 (.int .i64 i) <| gzb (eql_nn rfl i 9 (decide_eq_false h9)) <| gz3 (.bool false) undef (.bool false) <| wn ?_
          simp only [pu]
          have cg := CG.out W
          by_cases hup : up.toNat < m
          · skip
            obtain rfl := HO3.out (fun h => by omega)
            go_upto_region 10 with fail
            refine wl <| gz5 (.bool true) (.bool false) (.bool false) (.int .u64 m) (.int .i64 i) <| gzc (.int .i64 up) (fun w' => Below W.heap.size W w') (cg) (fun V2 hb2 => ?_)
            simp only [pu]
            refine gzv (.int .u64 up.toNat) (cv_iw rfl up HG1.1 (by omega) (by kernel_rfl) _) <| gzb (gtr_wn rfl (m) (up.toNat) (decide_eq_true (hup))) <| gz6 (.bool true) (.bool true) undef undef undef undef <| gz2 undef (.bool true) <| wn ?_
            simp only [pu]
            clear cg cw HO3 HI3 hup
            have hX3b := hX3.below hX3.lt hb2
            have hX6b := hX6.below hX6.lt hb2
            have hbA := HB.out.trans (hb2.mono HB.out.size)
            obtain ⟨V9, hst9, hld9, -, hbt9⟩ := A0.out V2 g6 _ rfl hX6b
            have HE := Lib.hid (hbA.trans (hbt9.1.mono (by have := HGE.out; omega)))
            go_upto_region 11 with fail
            refine wl <| gzl rfl ⟨g3, 0, none⟩ (.agg CC) (L0.out _ _ hX3b) <| gzs rfl (hst9) <| gz1 (.int .i64 1) <| wn ?_
            simp only [pu]
            clear hst9 hbt9 HG1 HG2
            go_wp2_with fail
            exact bodyPost_ret (results_c (p := 6) rfl (by kernel_rfl) hld9 (by kernel_rfl)) rfl ⟨rfl, HE.out⟩
          · skip
            have cl := CLE.out
            by_cases hlo : (m : Int) < lo
            · skip
              obtain rfl := HO3.out (fun h => by omega)
              go_upto_region 10 with fail
              refine wl <| gz5 (.bool true) (.bool false) (.bool false) (.int .u64 m) (.int .i64 i) <| gzc (.int .i64 up) (fun w' => Below W.heap.size W w') (cg) (fun V2 hb2 => ?_)
              simp only [pu]
              refine gzv (.int .u64 up.toNat) (cv_iw rfl up HG1.1 (by omega) (by kernel_rfl) _) <| gzb (gtr_wn rfl (m) (up.toNat) (decide_eq_false (hup))) <| gz3 (.bool false) (.bool false) (.int .u64 m) <|
                gzv (.int .i64 m) (cv_wi rfl m (by omega) (by kernel_rfl) _) <| gz1 (.int .i64 i) <| gzc (.int .i64 lo) (fun w' => Below V2.heap.size V2 w') (cl V2) (fun V3 hb3 => ?_)
              simp only [pu]
              refine gzb (lss_n rfl (m : Int) lo (decide_eq_true hlo)) <| gz1 (.bool true) <| wn ?_
              simp only [pu]
              have hb23 := hb2.trans (hb3.mono hb2.size)
              have hX3b := hX3.below hX3.lt hb23
              have hX6b := hX6.below hX6.lt hb23
              have hbA := HB.out.trans (hb23.mono HB.out.size)
              clear cg cl cw HO3 HI3 hup hlo hb2 hb3 hb23
              obtain ⟨V9, hst9, hld9, -, hbt9⟩ := A0.out V3 g6 _ rfl hX6b
              have HE := Lib.hid (hbA.trans (hbt9.1.mono (by have := HGE.out; omega)))
              go_upto_region 11 with fail
              refine wl <| gzl rfl ⟨g3, 0, none⟩ (.agg CC) (L0.out _ _ hX3b) <| gzs rfl (hst9) <| gz1 (.int .i64 1) <| wn ?_
              simp only [pu]
              clear hst9 hbt9 HG1 HG2
              go_wp2_with fail
              exact bodyPost_ret (results_c (p := 6) rfl (by kernel_rfl) hld9 (by kernel_rfl)) rfl ⟨rfl, HE.out⟩
            · skip
              obtain rfl := HI3.out (by omega) (by omega)
              go_upto_region 10 with fail
              refine wl <| gz5 (.bool true) (.bool false) (.bool false) (.int .u64 m) (.int .i64 i) <| gzc (.int .i64 up) (fun w' => Below W.heap.size W w') (cg) (fun V2 hb2 => ?_)
              simp only [pu]
              refine gzv (.int .u64 up.toNat) (cv_iw rfl up HG1.1 (by omega) (by kernel_rfl) _) <| gzb (gtr_wn rfl (m) (up.toNat) (decide_eq_false (hup))) <| gz3 (.bool false) (.bool false) (.int .u64 m) <|
                gzv (.int .i64 m) (cv_wi rfl m (by omega) (by kernel_rfl) _) <| gz1 (.int .i64 i) <| gzc (.int .i64 lo) (fun w' => Below V2.heap.size V2 w') (cl V2) (fun V3 hb3 => ?_)
              simp only [pu]
              refine gzb (lss_n rfl (m : Int) lo (decide_eq_false hlo)) <| gz1 (.bool false) <| wn ?_
              simp only [pu]
              have hb23 := hb2.trans (hb3.mono hb2.size)
              have hX3b := hX3.below hX3.lt hb23
              have hX6b := hX6.below hX6.lt hb23
              have hbA := HB.out.trans (hb23.mono HB.out.size)
              have cw3 := cw V3
              have hm63 : m < 9223372036854775808 := by omega
              clear cg cl cw HO3 HI3 hup hlo hb2 hb3 hb23
              have hl3 := L0.out _ _ hX3b
              go_upto_region 12 with fail
              refine wl <| gzl rfl ⟨g3, 0, none⟩ (.agg CC) (hl3) <| gz2 (.int .i64 i) (.int .u64 m) <| gzv (.int .i64 m) (cv_wi rfl m hm63 (by kernel_rfl) _) <| gzc (.agg (FI m)) (fun w' => Below V3.heap.size V3 w') (cw3) (fun V4 hb4 => ?_)
              have hX6c := hX6b.below hX6b.lt hb4
              have hbB := hbA.trans (hb4.mono hbA.size)
              obtain ⟨V9, hst9, hld9, -, hbt9⟩ := AI.out m V4 g6 _ rfl hX6c
              have HE := Lib.hid (hbB.trans (hbt9.1.mono (by have := HGE.out; omega)))
              simp only [pu]
              refine gzs rfl (hst9) <| gz1 (.int .i64 0) <| wn ?_
              simp only [pu]
              clear hst9 hbt9 HG1 HG2 cw3 hl3
              go_wp2_with fail
              exact bodyPost_ret (results_c (p := 6) rfl (by kernel_rfl) hld9 (by kernel_rfl)) rfl ⟨rfl, HE.out⟩
      · skip
        rw [show numV L = .tuple #[.int .u64 0, .bool false] by unfold numV; rw [if_neg (fun q => hbig q.2)]] at cn
        obtain rfl := HBI.out HN.out hd hbig
        go_upto_region 4 with fail
        refine wl <| gz1 (.string s) <| gzc (.tuple #[.int .u64 0, .bool false]) (fun w' => W = w') (cn) (fun V9 hV9 => ?_)
        subst hV9
        simp only [pu]
        refine gz5 (.tuple #[.int .u64 0, .bool false]) (.int .u64 0) (.bool false) (.int .u64 0) (.bool false) <| wn ?_
        simp only [pu]
        go_upto_region 5 with fail
        refine wl <| gz4 (.bool false) (.bool true) (.bool true) (.string s) <| gzc (.bool true) (fun w' => W = w') (cd) (fun V9 hV9 => ?_)
        subst hV9
        simp only [pu]
        refine gz2 (.bool false) (.bool false) <| wn ?_
        simp only [pu]
        clear cn cd hd hbig hpos
        by_cases h9 : i = 9
        · skip
          go_upto_region 7 with fail
          refine wl <| gz1 (.int .i64 i) <| gzb (eql_nn rfl i 9 (decide_eq_true h9)) <| gz3 (.bool true) (.bool false) (.bool false) <| wn ?_
          simp only [pu]
          clear h9
          go_upto_region 10 with fail
          refine wl <| gz6 (.bool false) (.bool true) (.bool true) undef undef undef <| gz6 undef undef (.bool true) (.bool true) undef undef <| gz4 undef undef undef (.bool true) <| wn ?_
          simp only [pu]
          obtain ⟨V9, hst9, hld9, -, hbt9⟩ := A0.out W g6 _ rfl hX6
          have HE := Lib.hid (HB.out.trans (hbt9.1.mono (by have := HGE.out; omega)))
          go_upto_region 11 with fail
          refine wl <| gzl rfl ⟨g3, 0, none⟩ (.agg CC) (L0.out _ _ hX3) <| gzs rfl (hst9) <| gz1 (.int .i64 1) <| wn ?_
          simp only [pu]
          clear hst9 hbt9 HG1 HG2
          clear H8 HSY HBI HPR HOU HIN HWI
          go_wp2_with fail
          exact bodyPost_ret (results_c (p := 6) rfl (by kernel_rfl) hld9 (by kernel_rfl)) rfl ⟨rfl, HE.out⟩
        · skip
          go_upto_region 7 with fail
          refine wl <| gz1 (.int .i64 i) <| gzb (eql_nn rfl i 9 (decide_eq_false h9)) <| gz3 (.bool false) undef (.bool false) <| wn ?_
          simp only [pu]
          clear h9
          go_upto_region 10 with fail
          refine wl <| gz6 (.bool false) (.bool true) (.bool true) undef undef undef <| gz6 undef undef (.bool true) (.bool true) undef undef <| gz4 undef undef undef (.bool true) <| wn ?_
          simp only [pu]
          obtain ⟨V9, hst9, hld9, -, hbt9⟩ := A0.out W g6 _ rfl hX6
          have HE := Lib.hid (HB.out.trans (hbt9.1.mono (by have := HGE.out; omega)))
          go_upto_region 11 with fail
          refine wl <| gzl rfl ⟨g3, 0, none⟩ (.agg CC) (L0.out _ _ hX3) <| gzs rfl (hst9) <| gz1 (.int .i64 1) <| wn ?_
          simp only [pu]
          clear hst9 hbt9 HG1 HG2
          clear H8 HSY HBI HPR HOU HIN HWI
          go_wp2_with fail
          exact bodyPost_ret (results_c (p := 6) rfl (by kernel_rfl) hld9 (by kernel_rfl)) rfl ⟨rfl, HE.out⟩
end Go.Proofs.YtplfineaomneiaaDoor
