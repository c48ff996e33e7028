/-
  The program's readTransfer: contract.
-/
import Derived.Test.YtaaeepanelmgnaaPR
namespace Go.Proofs.Ytaaeepanelmgnaa
open Go.RowKit
set_option linter.unusedSimpArgs false
set_option linter.unusedVariables false

theorem results_c {fn : Func} {tmps : Array Value} {w : World} {p q g ty : Nat} {v u : Value} (hr : fn.results = #[.cell p ty, .tmp q]) (h2 : tmps.getD p undef = .pointer (some ⟨g, 0, none⟩)) (hl : (Instr.loadAt ty (.pointer (some ⟨g, 0, none⟩))).run Try.prog w = .ok v w) (h3 : tmps.getD q undef = u) : (results fn tmps).run Try.prog w = .ok (.tuple #[v, u]) w := by
  unfold results
  rw [hr]
  have h2' : tmps[p]?.getD undef = .pointer (some ⟨g, 0, none⟩) := by simpa using h2
  have h3' : tmps[q]?.getD undef = u := by simpa using h3
  have hl' := hl
  simp only [Instr.loadAt, Instr.sureAddr, Sem.run_bind, Sem.run_pure, Result.andThen_ok] at hl'
  simp [h2', h3', asAddr, hl', Result.andThen]
/-- A transfer that was read, or none. -/
def TfO (w : World) (r : Option Tf) (e : Ending) (w' : World) : Prop := ∃ y ok, e = .returned (.tuple #[.agg (tfA y), .bool ok]) ∧ r = (if ok = true then some y else none) ∧ Below w.heap.size w w'
theorem rdTf_none {f : Fld} (h : ¬ (f.kind = 2 ∧ f.num = 6 ∧ (flds f.bytes).2.2 = 0 ∧ (takN 2 (takT 1 (flds f.bytes).1).2).2.length = 0)) : rdTf f = none := if_neg h
theorem rdTf_some {f : Fld} (h : f.kind = 2 ∧ f.num = 6 ∧ (flds f.bytes).2.2 = 0 ∧ (takN 2 (takT 1 (flds f.bytes).1).2).2.length = 0) : rdTf f = some ((takT 1 (flds f.bytes).1).1, (takN 2 (takT 1 (flds f.bytes).1).2).1) := if_pos h
theorem st_cell {w w0 : World} {g B i ty T : Nat} {cs cs' : Array Value} {v : Value} (h : Bx w g cs T) (hb : Below B w0 w) (hg : B ≤ g) (hi : i < cs.size) (h1 : v.oneCell' = true) (hs : (Try.prog.info? ty).map (·.size) = some 1) (hc : cs.setIfInBounds i v = cs') :
    ∃ V, (Instr.storeAt ty (.pointer (some ⟨g, i, none⟩)) v).run Try.prog w = .ok () V ∧ Bx V g cs' T ∧ Below B w0 V ∧ But g w V :=
  ⟨_, run_store_cell h hi h1 hs, hc ▸ h.setC v, hb.setCell hg v, But.setCell _ _ _⟩
set_option maxRecDepth 100000 in
set_option maxHeartbeats 8000000 in
theorem q_readTransfer (x : Fld) (b : Option Addr) (d : Nat) (w : World) (hs : Sl w b d x.bytes) (hd : x.bytes.length ≤ d) (hl : x.bytes.length ≤ 1000000) (h8 : ∀ y, y ∈ x.bytes → W8 y) (hkd : x.kind = 0 ∨ x.kind = 2) :
    Calls Try.prog 54 #[.agg (fdA x b d)] w (TfO w (rdTf x)) := by
  have hb1 : Below w.heap.size w (w.alloc (.cells (fdA x b d) 54)) := (Below.refl _ w).alloc (Nat.le_refl _) _
  have hX1 : Bx (w.alloc (.cells (fdA x b d) 54)) w.heap.size (fdA x b d) 54 := heap_alloc_last w _
  have hsz1 : (w.alloc (.cells (fdA x b d) 54)).heap.size = w.heap.size + 1 := by simp
  have CV := fun V => q_value x b d V
  have HX := Lib.hid (@rdTf_none x)
  have HY := Lib.hid (@rdTf_some x)
  have CFL := Lib.hid (fun V (h : Sl V b d x.bytes) => code_fields b d x.bytes V hl h h8 hd)
  have HFV : Hid ((flds x.bytes).2.2 = 0 → ∀ f, f ∈ (flds x.bytes).1 → Vf f) := Lib.hid fun h => by
    rcases flds_ok (fun y hy => h8 y hy) hl with ⟨-, q⟩ | ⟨P, e, -, hP⟩
    · exact absurd h q
    · rw [e]; exact hP
  generalize flds x.bytes = FR at *
  have HTN : Hid (∀ V, Below w.heap.size w V → rdTf x = none → TfO w (rdTf x) (.returned (.tuple #[.agg (tfA zTf), .bool false])) V) := Lib.hid fun V hb e => ⟨zTf, false, rfl, by rw [e]; rfl, hb⟩
  have HTY : Hid (∀ V y, Below w.heap.size w V → rdTf x = some y → TfO w (rdTf x) (.returned (.tuple #[.agg (tfA y), .bool true])) V) := Lib.hid fun V y hb e => ⟨y, true, rfl, by rw [e]; rfl, hb⟩
  generalize rdTf x = RR at *
  go_enter Try.func54, Try.ntmps54
  go_upto_region 1 with fail
  change Code.wp _ _ _ _ ((w.alloc (.cells (fdA x b d) 54)).alloc (.cells (tfA zTf) 58))
  generalize w.alloc (.cells (fdA x b d) 54) = W1 at *
  have hb0 : Below w.heap.size w (W1.alloc (.cells (tfA zTf) 58)) := hb1.alloc hb1.size _
  have hX0 : Bx (W1.alloc (.cells (tfA zTf) 58)) w.heap.size (fdA x b d) 54 := hX1.below hX1.lt ((Below.refl _ W1).alloc (Nat.le_refl _) _)
  have hY0 : Bx (W1.alloc (.cells (tfA zTf) 58)) W1.heap.size (tfA zTf) 58 := heap_alloc_last W1 _
  rw [hsz1] at hY0
  generalize W1.alloc (.cells (tfA zTf) 58) = W at *
  obtain ⟨g0, hg0⟩ : ∃ g0, w.heap.size = g0 := ⟨_, rfl⟩
  obtain ⟨g2, hg2⟩ : ∃ g2, w.heap.size + 1 = g2 := ⟨_, rfl⟩
  have HB0 := Lib.hid hb0
  have HG2 : Hid (w.heap.size ≤ g2) := Lib.hid (by omega)
  rw [hg2] at hY0
  rw [hg0] at hX0
  rw [hg2, hg0]
  have hsW := sl_below hs hb0
  clear hb0 hb1 hX1 hsz1 hg0 hg2 hs
  rcases hkd with hk | hk
  · skip
    have CVW : Calls Try.prog 62 #[.agg (fdA x b d)] W fun e w' => e = .returned (.iface 26 (.int .u64 x.val)) ∧ Below W.heap.size W w' := (CV W).mono fun e w' q => ⟨by rw [q.1, valV, if_pos hk], q.2⟩
    clear CV CFL HFV
    apply wp_region_lit
    refine gw_load (by kernel_rfl) (some 9) rfl 54 (.tmp 1) rfl ⟨g0, 0, none⟩ (.agg (fdA x b d)) (by kernel_rfl) (load_fdb hX0) ?_
    simp only [pu1, pu2, pu3, pu4]
    refine gw_call (by kernel_rfl) (some 10) rfl 62 #[.agg (fdA x b d)] (.iface 26 (.int .u64 x.val)) (fun w' => Below W.heap.size W w') (by kernel_rfl) CVW (fun V hV => ?_)
    simp only [pu1, pu2, pu3, pu4]
    refine gw_val (by kernel_rfl) (some 11) rfl (.tuple #[.slice none 0 0, .bool false]) (by kernel_rfl) ?_
    simp only [pu1, pu2, pu3, pu4]
    refine gw_val (by kernel_rfl) (some 8) rfl (.tuple #[.slice none 0 0, .bool false]) (by kernel_rfl) ?_
    simp only [pu1, pu2, pu3, pu4]
    refine gw_val (by kernel_rfl) (some 12) rfl (.slice none 0 0) (by kernel_rfl) ?_
    simp only [pu1, pu2, pu3, pu4]
    refine gw_val (by kernel_rfl) (some 13) rfl (.bool false) (by kernel_rfl) ?_
    simp only [pu1, pu2, pu3, pu4]
    refine gw_val (by kernel_rfl) (some 4) rfl (.slice none 0 0) (by kernel_rfl) ?_
    simp only [pu1, pu2, pu3, pu4]
    refine gw_val (by kernel_rfl) (some 3) rfl (.bool false) (by kernel_rfl) ?_
    simp only [pu1, pu2, pu3, pu4]
    apply wpList_nil
    have hXV := hX0.below hX0.lt hV
    have hYV := hY0.below hY0.lt hV
    have hsV := sl_below hsW hV
    have HBV := Lib.hid (HB0.out.trans (hV.mono HB0.out.size))
    clear hV hX0 hY0 hsW HB0 CVW
    go_upto_region 2 with fail
    apply wp_region_lit
    refine gw_val (by kernel_rfl) (some 14) rfl (.bool false) (by kernel_rfl) ?_
    simp only [pu1, pu2, pu3, pu4]
    refine gw_val (by kernel_rfl) (some 15) rfl (.bool true) (by kernel_rfl) ?_
    simp only [pu1, pu2, pu3, pu4]
    refine gw_val (by kernel_rfl) (some 16) rfl (.bool true) (by kernel_rfl) ?_
    simp only [pu1, pu2, pu3, pu4]
    with_reducible refine gw_not (by kernel_rfl) (some 17) rfl ?_
    simp only [pu1, pu2, pu3, pu4]
    with_reducible refine gw_not (by kernel_rfl) (some 18) rfl ?_
    simp only [pu1, pu2, pu3, pu4]
    with_reducible refine gw_not (by kernel_rfl) (some 19) rfl ?_
    simp only [pu1, pu2, pu3, pu4]
    refine gw_val (by kernel_rfl) (some 20) rfl (.bool true) (by kernel_rfl) ?_
    simp only [pu1, pu2, pu3, pu4]
    apply wpList_nil
    obtain ⟨hst, hZ⟩ := store_tf (y := zTf) hYV
    have HB9 := Lib.hid (belowRow HBV.out HG2.out (tfA zTf))
    have HE := Lib.hid (HTN.out _ HB9.out (HX.out (by rw [hk]; intro q; exact absurd q.1 (by decide))))
    generalize World.setRow _ g2 (tfA zTf) = V9 at *
    clear HTN HTY HX HY
    go_upto_region 3 with fail
    apply wp_region_lit
    refine gw_val (by kernel_rfl) (some 21) rfl (.agg #[.string ⟨#[]⟩, .int .u64 0]) (by kernel_rfl) ?_
    simp only [pu1, pu2, pu3, pu4]
    refine gw_store (by kernel_rfl) rfl 58 (.tmp 2) (.tmp 21) rfl (.pointer (some ⟨g2, 0, none⟩)) (.agg #[.string ⟨#[]⟩, .int .u64 0]) (by kernel_rfl) (by kernel_rfl) (V9) (hst) ?_
    refine gw_val (by kernel_rfl) (some 3) rfl (.bool false) (by kernel_rfl) ?_
    simp only [pu1, pu2, pu3, pu4]
    apply wpList_nil
    go_wp2_with fail
    exact bodyPost_ret (results_c (p := 2) (q := 3) rfl (by kernel_rfl) (load_tfb hZ) rfl) rfl HE.out
  · skip
    have CVW : Calls Try.prog 62 #[.agg (fdA x b d)] W fun e w' => e = .returned (.iface 39 (.slice b x.bytes.length d)) ∧ Below W.heap.size W w' := (CV W).mono fun e w' q => ⟨by rw [q.1, valV, if_neg (by omega)], q.2⟩
    clear CV
    apply wp_region_lit
    refine gw_load (by kernel_rfl) (some 9) rfl 54 (.tmp 1) rfl ⟨g0, 0, none⟩ (.agg (fdA x b d)) (by kernel_rfl) (load_fdb hX0) ?_
    simp only [pu1, pu2, pu3, pu4]
    refine gw_call (by kernel_rfl) (some 10) rfl 62 #[.agg (fdA x b d)] (.iface 39 (.slice b x.bytes.length d)) (fun w' => Below W.heap.size W w') (by kernel_rfl) CVW (fun V hV => ?_)
    simp only [pu1, pu2, pu3, pu4]
    refine gw_val (by kernel_rfl) (some 11) rfl (.tuple #[.slice b x.bytes.length d, .bool true]) (by kernel_rfl) ?_
    simp only [pu1, pu2, pu3, pu4]
    refine gw_val (by kernel_rfl) (some 8) rfl (.tuple #[.slice b x.bytes.length d, .bool true]) (by kernel_rfl) ?_
    simp only [pu1, pu2, pu3, pu4]
    refine gw_val (by kernel_rfl) (some 12) rfl (.slice b x.bytes.length d) (by kernel_rfl) ?_
    simp only [pu1, pu2, pu3, pu4]
    refine gw_val (by kernel_rfl) (some 13) rfl (.bool true) (by kernel_rfl) ?_
    simp only [pu1, pu2, pu3, pu4]
    refine gw_val (by kernel_rfl) (some 4) rfl (.slice b x.bytes.length d) (by kernel_rfl) ?_
    simp only [pu1, pu2, pu3, pu4]
    refine gw_val (by kernel_rfl) (some 3) rfl (.bool true) (by kernel_rfl) ?_
    simp only [pu1, pu2, pu3, pu4]
    apply wpList_nil
    have hXV := hX0.below hX0.lt hV
    have hYV := hY0.below hY0.lt hV
    have hsV := sl_below hsW hV
    have HBV := Lib.hid (HB0.out.trans (hV.mono HB0.out.size))
    clear hV hX0 hY0 hsW HB0 CVW
    go_upto_region 2 with fail
    by_cases hn : x.num = 6
    · skip
      skip
      apply wp_region_lit
      refine gw_val (by kernel_rfl) (some 14) rfl (.bool true) (by kernel_rfl) ?_
      simp only [pu1, pu2, pu3, pu4]
      refine gw_val (by kernel_rfl) (some 15) rfl (.bool false) (by kernel_rfl) ?_
      simp only [pu1, pu2, pu3, pu4]
      refine gw_val (by kernel_rfl) (some 16) rfl (.bool false) (by kernel_rfl) ?_
      simp only [pu1, pu2, pu3, pu4]
      refine gw_val (by kernel_rfl) (some 17) rfl (.pointer (some ⟨g0, 0, none⟩)) (by kernel_rfl) ?_
      simp only [pu1, pu2, pu3, pu4]
      refine gw_load (by kernel_rfl) (some 18) rfl 3 (.tmp 17) rfl ⟨g0, 0, none⟩ (.int .i64 x.num) (by kernel_rfl) (hXV.load (i := 0) rfl (by kernel_rfl)) ?_
      simp only [pu1, pu2, pu3, pu4]
      refine gw_val (by kernel_rfl) (some 19) rfl (.bool false) (neq_n rfl x.num 6 (decide_eq_true hn) (by kernel_rfl) (by kernel_rfl) _) ?_
      simp only [pu1, pu2, pu3, pu4]
      refine gw_val (by kernel_rfl) (some 20) rfl (.bool false) (by kernel_rfl) ?_
      simp only [pu1, pu2, pu3, pu4]
      apply wpList_nil
      have CF := CFL.out V hsV
      clear CFL hsV hXV
      go_upto_region 4 with fail
      apply wp_region_lit
      refine gw_val (by kernel_rfl) (some 23) rfl (.slice b x.bytes.length d) (by kernel_rfl) ?_
      simp only [pu1, pu2, pu3, pu4]
      refine gw_callE (by kernel_rfl) (some 24) rfl 51 #[.slice b x.bytes.length d] (fun v w' => ∃ a c ps, v = .tuple #[.slice a ps.length c, .int .i64 FR.2.1, .int .i64 FR.2.2] ∧ ps.map Prod.fst = FR.1 ∧ ps.length ≤ c ∧ FsB w' V.heap.size a ps ∧ Below V.heap.size V w') (by kernel_rfl) (CF.mono fun e w' q => by obtain ⟨v, ps, h1, h2, h3, h4⟩ := q; obtain ⟨a, c, rfl, hc, hf⟩ := h3.fsb; exact ⟨_, h1, a, c, ps, rfl, h2, hc, hf, h4⟩) (fun v5 V5 hq => ?_)
      obtain ⟨a5, c5, ps, rfl, hps, hc5, hF5, hb5⟩ := hq
      simp only [pu1, pu2, pu3, pu4]
      refine gw_val (by kernel_rfl) (some 22) rfl (.tuple #[.slice a5 ps.length c5, .int .i64 FR.2.1, .int .i64 FR.2.2]) (by kernel_rfl) ?_
      simp only [pu1, pu2, pu3, pu4]
      refine gw_val (by kernel_rfl) (some 25) rfl (.slice a5 ps.length c5) (by kernel_rfl) ?_
      simp only [pu1, pu2, pu3, pu4]
      refine gw_val (by kernel_rfl) (some 26) rfl (.int .i64 FR.2.1) (by kernel_rfl) ?_
      simp only [pu1, pu2, pu3, pu4]
      refine gw_val (by kernel_rfl) (some 27) rfl (.int .i64 FR.2.2) (by kernel_rfl) ?_
      simp only [pu1, pu2, pu3, pu4]
      refine gw_val (by kernel_rfl) (some 5) rfl (.slice a5 ps.length c5) (by kernel_rfl) ?_
      simp only [pu1, pu2, pu3, pu4]
      refine gw_val (by kernel_rfl) (some 6) rfl (.int .i64 FR.2.1) (by kernel_rfl) ?_
      simp only [pu1, pu2, pu3, pu4]
      refine gw_val (by kernel_rfl) (some 7) rfl (.int .i64 FR.2.2) (by kernel_rfl) ?_
      simp only [pu1, pu2, pu3, pu4]
      apply wpList_nil
      have hY5 := hYV.below hYV.lt hb5
      have HB5 := Lib.hid (HBV.out.trans (hb5.mono HBV.out.size))
      have HGV : Hid (g2 < V.heap.size) := Lib.hid hYV.lt
      obtain ⟨P, n5, e5⟩ := FR
      dsimp only at *
      clear hb5 hYV HBV CF
      go_upto_region 5 with fail
      by_cases he : e5 = 0
      · skip
        have hvf := HFV.out he
        rw [← hps] at hvf HX HY
        clear HFV hps
        apply wp_region_lit
        refine gw_val (by kernel_rfl) (some 28) rfl (.int .i64 e5) (by kernel_rfl) ?_
        simp only [pu1, pu2, pu3, pu4]
        refine gw_val (by kernel_rfl) (some 29) rfl (.bool false) (neq_e rfl e5 0 (decide_eq_true he) (by kernel_rfl) (by kernel_rfl) _) ?_
        simp only [pu1, pu2, pu3, pu4]
        apply wpList_nil
        have CT := q_takeText a5 c5 ps V.heap.size 1 V5 hF5 hc5 hvf
        have hv2 := takT_vf (k := 1) hvf
        generalize takT 1 (ps.map Prod.fst) = TT at *
        obtain ⟨s1, R1⟩ := TT
        dsimp only at *
        go_upto_region 7 with fail
        apply wp_region_lit
        refine gw_val (by kernel_rfl) (some 32) rfl (.slice a5 ps.length c5) (by kernel_rfl) ?_
        simp only [pu1, pu2, pu3, pu4]
        refine gw_callE (by kernel_rfl) (some 33) rfl 52 #[.slice a5 ps.length c5, .int .i64 1] (fun v w' => ∃ a c qs, v = .tuple #[.string s1, .slice a qs.length c] ∧ FsB w' V.heap.size a qs ∧ qs.length ≤ c ∧ qs.map Prod.fst = R1 ∧ Below V5.heap.size V5 w') (by kernel_rfl) (CT.mono fun e w' q => by obtain ⟨a, c, qs, h1, h2⟩ := q; exact ⟨_, h1, a, c, qs, rfl, h2⟩) (fun v6 V6 hq => ?_)
        obtain ⟨a6, c6, q1, rfl, hF6, hc6, hq1, hb6⟩ := hq
        have hY6 := hY5.below hY5.lt hb6
        have HB6 := Lib.hid (HB5.out.trans (hb6.mono HB5.out.size))
        obtain ⟨V7, hst7, hY7, hB7, hbut7⟩ := st_cell (i := 0) (ty := 9) (v := .string s1) (cs' := tfA (s1, 0)) hY6 HB6.out HG2.out (by show 0 < 2; decide) rfl (by kernel_rfl) rfl
        have hF7 := hF6.but hbut7 HGV.out
        have HB7 := Lib.hid hB7
        clear CT hb6 hY5 HB5 hF5 hc5
        simp only [pu1, pu2, pu3, pu4]
        refine gw_val (by kernel_rfl) (some 31) rfl (.tuple #[.string s1, .slice a6 q1.length c6]) (by kernel_rfl) ?_
        simp only [pu1, pu2, pu3, pu4]
        refine gw_val (by kernel_rfl) (some 34) rfl (.string s1) (by kernel_rfl) ?_
        simp only [pu1, pu2, pu3, pu4]
        refine gw_val (by kernel_rfl) (some 35) rfl (.slice a6 q1.length c6) (by kernel_rfl) ?_
        simp only [pu1, pu2, pu3, pu4]
        refine gw_val (by kernel_rfl) (some 36) rfl (.pointer (some ⟨g2, 0, none⟩)) (by kernel_rfl) ?_
        simp only [pu1, pu2, pu3, pu4]
        refine gw_store (by kernel_rfl) rfl 9 (.tmp 36) (.tmp 34) rfl (.pointer (some ⟨g2, 0, none⟩)) (.string s1) (by kernel_rfl) (by kernel_rfl) (V7) (hst7) ?_
        refine gw_val (by kernel_rfl) (some 5) rfl (.slice a6 q1.length c6) (by kernel_rfl) ?_
        simp only [pu1, pu2, pu3, pu4]
        apply wpList_nil
        rw [← hq1] at hv2 HX HY
        have CN := q_takeNumber a6 c6 q1 V.heap.size 2 V7 hF7 hc6 hv2
        generalize takN 2 (q1.map Prod.fst) = TN at *
        obtain ⟨m2, R2⟩ := TN
        dsimp only at *
        clear hst7 hY6 HB6 hB7 hbut7 hF6 hvf hv2 hq1
        go_upto_region 8 with fail
        apply wp_region_lit
        refine gw_val (by kernel_rfl) (some 38) rfl (.slice a6 q1.length c6) (by kernel_rfl) ?_
        simp only [pu1, pu2, pu3, pu4]
        refine gw_callE (by kernel_rfl) (some 39) rfl 53 #[.slice a6 q1.length c6, .int .i64 2] (fun v w' => ∃ a c qs, v = .tuple #[.int .u64 m2, .slice a qs.length c] ∧ FsB w' V.heap.size a qs ∧ qs.length ≤ c ∧ qs.map Prod.fst = R2 ∧ Below V7.heap.size V7 w') (by kernel_rfl) (CN.mono fun e w' q => by obtain ⟨a, c, qs, h1, h2⟩ := q; exact ⟨_, h1, a, c, qs, rfl, h2⟩) (fun v8 V8 hq => ?_)
        obtain ⟨a8, c8, q2, rfl, hF8, hc8, hq2, hb8⟩ := hq
        have hY8 := hY7.below hY7.lt hb8
        have HB8 := Lib.hid (HB7.out.trans (hb8.mono HB7.out.size))
        obtain ⟨V9, hst9, hY9, hB9, -⟩ := st_cell (i := 1) (ty := 26) (v := .int .u64 m2) (cs' := tfA (s1, m2)) hY8 HB8.out HG2.out (by show 1 < 2; decide) rfl (by kernel_rfl) rfl
        have HB9 := Lib.hid hB9
        clear CN hb8 hY7 HB7 hF7 hc6 hF8 hc8 hY8 HB8
        simp only [pu1, pu2, pu3, pu4]
        refine gw_val (by kernel_rfl) (some 37) rfl (.tuple #[.int .u64 m2, .slice a8 q2.length c8]) (by kernel_rfl) ?_
        simp only [pu1, pu2, pu3, pu4]
        refine gw_val (by kernel_rfl) (some 40) rfl (.int .u64 m2) (by kernel_rfl) ?_
        simp only [pu1, pu2, pu3, pu4]
        refine gw_val (by kernel_rfl) (some 41) rfl (.slice a8 q2.length c8) (by kernel_rfl) ?_
        simp only [pu1, pu2, pu3, pu4]
        refine gw_val (by kernel_rfl) (some 42) rfl (.pointer (some ⟨g2, 1, none⟩)) (by kernel_rfl) ?_
        simp only [pu1, pu2, pu3, pu4]
        refine gw_store (by kernel_rfl) rfl 26 (.tmp 42) (.tmp 40) rfl (.pointer (some ⟨g2, 1, none⟩)) (.int .u64 m2) (by kernel_rfl) (by kernel_rfl) (V9) (hst9) ?_
        refine gw_val (by kernel_rfl) (some 5) rfl (.slice a8 q2.length c8) (by kernel_rfl) ?_
        simp only [pu1, pu2, pu3, pu4]
        apply wpList_nil
        rw [← hq2] at HX HY
        rw [List.length_map] at HX HY
        clear hst9 hB9 hq2
        obtain ⟨n2, hn2⟩ : ∃ n2, q2.length = n2 := ⟨_, rfl⟩
        rw [hn2] at HX HY ⊢
        clear hn2
        go_upto_region 9 with fail
        by_cases hz : n2 = 0
        · skip
          apply wp_region_lit
          refine gw_val (by kernel_rfl) (some 43) rfl (.slice a8 n2 c8) (by kernel_rfl) ?_
          simp only [pu1, pu2, pu3, pu4]
          refine gw_val (by kernel_rfl) (some 44) rfl (.int .i64 n2) (by kernel_rfl) ?_
          simp only [pu1, pu2, pu3, pu4]
          refine gw_val (by kernel_rfl) (some 45) rfl (.bool false) (gtr_n rfl (n2) (0) (decide_eq_false (by omega)) (by kernel_rfl) (by kernel_rfl) _) ?_
          simp only [pu1, pu2, pu3, pu4]
          apply wpList_nil
          obtain ⟨hst, hZ⟩ := store_tf (y := (s1, m2)) hY9
          have HBA := Lib.hid (belowRow HB9.out HG2.out (tfA (s1, m2)))
          have HE := Lib.hid (HTY.out _ _ HBA.out (HY.out ⟨hk, hn, he, hz⟩))
          generalize World.setRow _ g2 (tfA (s1, m2)) = VA at *
          clear HTN HTY HX HY HBA HB9
          go_upto_region 11 with fail
          apply wp_region_lit
          refine gw_load (by kernel_rfl) (some 47) rfl 58 (.tmp 2) rfl ⟨g2, 0, none⟩ (.agg (tfA (s1, m2))) (by kernel_rfl) (load_tfb hY9) ?_
          simp only [pu1, pu2, pu3, pu4]
          refine gw_store (by kernel_rfl) rfl 58 (.tmp 2) (.tmp 47) rfl (.pointer (some ⟨g2, 0, none⟩)) (.agg (tfA (s1, m2))) (by kernel_rfl) (by kernel_rfl) (VA) (hst) ?_
          refine gw_val (by kernel_rfl) (some 3) rfl (.bool true) (by kernel_rfl) ?_
          simp only [pu1, pu2, pu3, pu4]
          apply wpList_nil
          go_wp2_with fail
          exact bodyPost_ret (results_c (p := 2) (q := 3) rfl (by kernel_rfl) (load_tfb hZ) rfl) rfl HE.out
        · skip
          apply wp_region_lit
          refine gw_val (by kernel_rfl) (some 43) rfl (.slice a8 n2 c8) (by kernel_rfl) ?_
          simp only [pu1, pu2, pu3, pu4]
          refine gw_val (by kernel_rfl) (some 44) rfl (.int .i64 n2) (by kernel_rfl) ?_
          simp only [pu1, pu2, pu3, pu4]
          refine gw_val (by kernel_rfl) (some 45) rfl (.bool true) (gtr_n rfl (n2) (0) (decide_eq_true (by omega)) (by kernel_rfl) (by kernel_rfl) _) ?_
          simp only [pu1, pu2, pu3, pu4]
          apply wpList_nil
          obtain ⟨hst, hZ⟩ := store_tf (y := zTf) hY9
          have HBA := Lib.hid (belowRow HB9.out HG2.out (tfA zTf))
          have HE := Lib.hid (HTN.out _ HBA.out (HX.out (fun q => hz q.2.2.2)))
          generalize World.setRow _ g2 (tfA zTf) = VA at *
          clear HTN HTY HX HY
          go_upto_region 10 with fail
          apply wp_region_lit
          refine gw_val (by kernel_rfl) (some 46) rfl (.agg #[.string ⟨#[]⟩, .int .u64 0]) (by kernel_rfl) ?_
          simp only [pu1, pu2, pu3, pu4]
          refine gw_store (by kernel_rfl) rfl 58 (.tmp 2) (.tmp 46) rfl (.pointer (some ⟨g2, 0, none⟩)) (.agg #[.string ⟨#[]⟩, .int .u64 0]) (by kernel_rfl) (by kernel_rfl) (VA) (hst) ?_
          refine gw_val (by kernel_rfl) (some 3) rfl (.bool false) (by kernel_rfl) ?_
          simp only [pu1, pu2, pu3, pu4]
          apply wpList_nil
          go_wp2_with fail
          exact bodyPost_ret (results_c (p := 2) (q := 3) rfl (by kernel_rfl) (load_tfb hZ) rfl) rfl HE.out
      · skip
        apply wp_region_lit
        refine gw_val (by kernel_rfl) (some 28) rfl (.int .i64 e5) (by kernel_rfl) ?_
        simp only [pu1, pu2, pu3, pu4]
        refine gw_val (by kernel_rfl) (some 29) rfl (.bool true) (neq_e rfl e5 0 (decide_eq_false he) (by kernel_rfl) (by kernel_rfl) _) ?_
        simp only [pu1, pu2, pu3, pu4]
        apply wpList_nil
        obtain ⟨hst, hZ⟩ := store_tf (y := zTf) hY5
        have HB9 := Lib.hid (belowRow HB5.out HG2.out (tfA zTf))
        have HE := Lib.hid (HTN.out _ HB9.out (HX.out (fun q => he q.2.2.1)))
        generalize World.setRow _ g2 (tfA zTf) = V9 at *
        clear HTN HTY HX HY
        go_upto_region 6 with fail
        apply wp_region_lit
        refine gw_val (by kernel_rfl) (some 30) rfl (.agg #[.string ⟨#[]⟩, .int .u64 0]) (by kernel_rfl) ?_
        simp only [pu1, pu2, pu3, pu4]
        refine gw_store (by kernel_rfl) rfl 58 (.tmp 2) (.tmp 30) rfl (.pointer (some ⟨g2, 0, none⟩)) (.agg #[.string ⟨#[]⟩, .int .u64 0]) (by kernel_rfl) (by kernel_rfl) (V9) (hst) ?_
        refine gw_val (by kernel_rfl) (some 3) rfl (.bool false) (by kernel_rfl) ?_
        simp only [pu1, pu2, pu3, pu4]
        apply wpList_nil
        go_wp2_with fail
        exact bodyPost_ret (results_c (p := 2) (q := 3) rfl (by kernel_rfl) (load_tfb hZ) rfl) rfl HE.out
    · skip
      apply wp_region_lit
      refine gw_val (by kernel_rfl) (some 14) rfl (.bool true) (by kernel_rfl) ?_
      simp only [pu1, pu2, pu3, pu4]
      refine gw_val (by kernel_rfl) (some 15) rfl (.bool false) (by kernel_rfl) ?_
      simp only [pu1, pu2, pu3, pu4]
      refine gw_val (by kernel_rfl) (some 16) rfl (.bool false) (by kernel_rfl) ?_
      simp only [pu1, pu2, pu3, pu4]
      refine gw_val (by kernel_rfl) (some 17) rfl (.pointer (some ⟨g0, 0, none⟩)) (by kernel_rfl) ?_
      simp only [pu1, pu2, pu3, pu4]
      refine gw_load (by kernel_rfl) (some 18) rfl 3 (.tmp 17) rfl ⟨g0, 0, none⟩ (.int .i64 x.num) (by kernel_rfl) (hXV.load (i := 0) rfl (by kernel_rfl)) ?_
      simp only [pu1, pu2, pu3, pu4]
      refine gw_val (by kernel_rfl) (some 19) rfl (.bool true) (neq_n rfl x.num 6 (decide_eq_false hn) (by kernel_rfl) (by kernel_rfl) _) ?_
      simp only [pu1, pu2, pu3, pu4]
      refine gw_val (by kernel_rfl) (some 20) rfl (.bool true) (by kernel_rfl) ?_
      simp only [pu1, pu2, pu3, pu4]
      apply wpList_nil
      obtain ⟨hst, hZ⟩ := store_tf (y := zTf) hYV
      have HB9 := Lib.hid (belowRow HBV.out HG2.out (tfA zTf))
      have HE := Lib.hid (HTN.out _ HB9.out (HX.out (fun q => hn q.2.1)))
      generalize World.setRow _ g2 (tfA zTf) = V9 at *
      clear HTN HTY HX HY
      go_upto_region 3 with fail
      apply wp_region_lit
      refine gw_val (by kernel_rfl) (some 21) rfl (.agg #[.string ⟨#[]⟩, .int .u64 0]) (by kernel_rfl) ?_
      simp only [pu1, pu2, pu3, pu4]
      refine gw_store (by kernel_rfl) rfl 58 (.tmp 2) (.tmp 21) rfl (.pointer (some ⟨g2, 0, none⟩)) (.agg #[.string ⟨#[]⟩, .int .u64 0]) (by kernel_rfl) (by kernel_rfl) (V9) (hst) ?_
      refine gw_val (by kernel_rfl) (some 3) rfl (.bool false) (by kernel_rfl) ?_
      simp only [pu1, pu2, pu3, pu4]
      apply wpList_nil
      go_wp2_with fail
      exact bodyPost_ret (results_c (p := 2) (q := 3) rfl (by kernel_rfl) (load_tfb hZ) rfl) rfl HE.out
end Go.Proofs.Ytaaeepanelmgnaa
