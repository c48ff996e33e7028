/-
  The walk of play: what numbers say, done to a list and to the reference.
-/
import Derived.Test.YtefinpapkjgpoaaLN
namespace Go.Proofs.Ytefinpapkjgpoaa
open Go.RowKit
set_option linter.unusedSimpArgs false
set_option linter.unusedVariables false

theorem results_play {fn : Func} {tmps : Array Value} {w : World} {p q r g : Nat} {v u : Value} {cs : Array Value} (hr : fn.results = #[.tmp q, .cell p 28, .tmp r]) (h2 : tmps.getD p undef = .pointer (some ⟨g, 0, none⟩)) (h3 : tmps.getD q undef = v) (h4 : tmps.getD r undef = u)
    (hA : w.heap[g]? = some (.cells cs 28 (0, 0))) (hi : (Try.prog.info? 28).map (·.size) = some cs.size) : (results fn tmps).run Try.prog w = .ok (.tuple #[v, .agg cs, u]) w := by
  have hl := run_loadVar_row (P := Try.prog) w g 28 28 cs (0, 0) _ hA Try.underlying28 rfl (by rw [hi])
  unfold results
  rw [hr]
  have h2' : tmps[p]?.getD undef = .pointer (some ⟨g, 0, none⟩) := by simpa using h2
  have h3' : tmps[q]?.getD undef = v := by simpa using h3
  have h4' : tmps[r]?.getD undef = u := by simpa using h4
  simp [h2', h3', h4', asAddr, hl, Result.andThen]
/-- What play returns. -/
def PlO (R : Rep) (w : World) (e : Ending) (w' : World) : Prop := ∃ gl S ea fa ec fc m, e = .returned (.tuple #[.pointer (some ⟨gl, 0, none⟩), .agg (lv ea fa ec fc m), .bool true]) ∧ R w' gl S m ∧ LV w' ea fa ec fc m ∧ Wm m ∧ Ok m 200 ∧ Below w.heap.size w w' ∧ ∀ k, S k → w.heap.size ≤ k

set_option maxRecDepth 100000 in
set_option maxHeartbeats 8000000 in
theorem play_core {R : Rep} (hC : ListC R 23 25 27 28 29 18 15 17 20 22 12 14) (a : Option Addr) (c : Nat) (L : List Int) (w : World) (hL : Cs w a (icells L)) (hn : L.length ≤ 160) :
    Calls Try.prog 10 #[.slice a L.length c] w (PlO R w) := by
  have hb0 : Below w.heap.size w (w.alloc (.cells zl 28)) := (Below.refl _ w).alloc (Nat.le_refl _) _
  have hz0 : Bx (w.alloc (.cells zl 28)) w.heap.size zl 28 := heap_alloc_last w _
  have HL := Lib.hid hL
  have CX := fun (gs N : Nat) (k : Int) (V : World) (hX : Bx V gs #[.slice a L.length c, .int .i64 N] 48) (hb : Below w.heap.size w V) (hN : N ≤ 100000) (h0 : 0 < k) (h1 : k ≤ 1000000) => mk_next gs L a c N k V hX (HL.out.below hb) (by omega) hN h0 h1
  generalize hnn : L.length = n at *
  have CF := mk_from a n c
  have hsz0 : (w.alloc (.cells zl 28)).heap.size = w.heap.size + 1 := by simp
  clear hL hnn
  go_enter Try.func10, Try.ntmps10
  go_upto_region 1 with fail
  change Code.wp _ _ _ _ (w.alloc (.cells zl 28))
  generalize w.alloc (.cells zl 28) = W0 at *
  apply wp_region_lit
  refine gw_val (by kernel_rfl) (some 15) rfl (.slice a n c) (by kernel_rfl) ?_
  simp only [Act.put, List.setIfInBounds_toArray, List.set_cons_succ, List.set_cons_zero]
  refine gw_call (by kernel_rfl) (some 16) rfl 24 #[.slice a n c] (.pointer (some ⟨W0.heap.size, 0, none⟩)) (fun w' => w' = W0.alloc (.cells #[.slice a n c, .int .i64 0] 48)) (by kernel_rfl) (CF W0) (fun W1 hW1 => ?_)
  simp only [Act.put, List.setIfInBounds_toArray, List.set_cons_succ, List.set_cons_zero]
  refine gw_val (by kernel_rfl) (some 5) rfl (.pointer (some ⟨W0.heap.size, 0, none⟩)) (by kernel_rfl) ?_
  simp only [Act.put, List.setIfInBounds_toArray, List.set_cons_succ, List.set_cons_zero]
  apply wpList_nil
  have hb1 : Below W0.heap.size W0 W1 := by rw [hW1]; exact (Below.refl _ W0).alloc (Nat.le_refl _) _
  have hX1 : Bx W1 W0.heap.size #[.slice a n c, .int .i64 (0 : Nat)] 48 := by rw [hW1]; exact heap_alloc_last W0 _
  have hz1 := hz0.below hz0.lt hb1
  have hsz1 : W1.heap.size = W0.heap.size + 1 := by rw [hW1]; simp
  have hbw1 := hb0.trans (hb1.mono hb0.size)
  clear hW1 hz0 hb0 hb1 CF
  go_upto_region 2 with fail
  apply wp_region_lit
  refine gw_callE (by kernel_rfl) (some 17) rfl 23 #[] (fun v w' => ∃ g S, v = .pointer (some ⟨g, 0, none⟩) ∧ R w' g S LM.empty ∧ (∀ k, S k → W1.heap.size ≤ k) ∧ Below W1.heap.size W1 w') (by kernel_rfl) ((hC.new W1).mono fun e w' h => by obtain ⟨g, S, he, h⟩ := h; exact ⟨_, he, g, S, rfl, h⟩) (fun v W2 hq => ?_)
  obtain ⟨gl, S0, rfl, hr2, hs2, hb2⟩ := hq
  simp only [Act.put, List.setIfInBounds_toArray, List.set_cons_succ, List.set_cons_zero]
  refine gw_val (by kernel_rfl) (some 6) rfl (.pointer (some ⟨gl, 0, none⟩)) (by kernel_rfl) ?_
  simp only [Act.put, List.setIfInBounds_toArray, List.set_cons_succ, List.set_cons_zero]
  apply wpList_nil
  have hX2 := hX1.below hX1.lt hb2
  have hz2 := hz1.below hz1.lt hb2
  have hbw2 := hbw1.trans (hb2.mono hbw1.size)
  have hb3 : Below W2.heap.size W2 (W2.alloc (.cells zl 28)) := (Below.refl _ W2).alloc (Nat.le_refl _) _
  have hm3 : Bx (W2.alloc (.cells zl 28)) W2.heap.size zl 28 := heap_alloc_last W2 _
  have hs12 := hb2.size
  have h0 : PW R w a n c w.heap.size W0.heap.size W2.heap.size gl W1.heap.size 0 S0 none none 0 0 LM.empty LM.empty (W2.alloc (.cells zl 28)) :=
    { bel := hbw2.trans (hb3.mono hbw2.size), z := hz2.below hz2.lt hb3, num := hX2.below hX2.lt hb3, bm := hm3
      l := ⟨Cs.nil _ _, Nat.le_refl _, Cs.nil _ _, Nat.le_refl _, by simp [LM.empty], by simp [LM.empty], by simp [LM.empty]⟩
      eo := fun x hx => by cases hx
      fo := fun x hx => by cases hx
      r := hC.keep hr2 hb3.size fun k hk => hb3.block k (hC.inn hr2 k hk)
      so := fun k hk => by
        have := hs2 k hk
        have := hC.inn hr2 k hk
        exact ⟨by omega, by omega, by omega, by omega⟩
      wm := Wm.empty, ok := Ok.empty 0, wp := Wm.empty, op := Ok.empty 0
      g3w := Nat.le_refl _, gsw := by omega, gmw := by omega, gss := by omega, gms := ⟨by omega, by omega⟩, Bw := by omega, BV := by have := hb3.size; omega }
  clear hX1 hX2 hz1 hz2 hbw1 hbw2 hb2 hb3 hm3 hr2 hs2
  go_upto_region 4 with fail
  change Code.wp _ _ _ _ (W2.alloc (.cells zl 28))
  generalize W2.alloc (.cells zl 28) = W3 at *
  have hBw : w.heap.size ≤ W1.heap.size := h0.Bw
  generalize W2.heap.size = gm at *
  generalize W1.heap.size = B at *
  generalize W0.heap.size = gs at *
  generalize hg3 : w.heap.size = g3 at *
  clear hsz0 hsz1 hs12
  go_wp2_with fail
  go_loopg [8] n (fun g s8 wx => ∃ N S ea fa ec fc m, PW R w a n c g3 gs gm gl B N S ea fa ec fc m m wx ∧ N ≤ n + 1 ∧ n - N = g)
  case atStart => exact ⟨0, S0, none, none, 0, 0, LM.empty, h0, by omega, by omega⟩
  case round =>
    obtain ⟨N, S, ea, fa, ec, fc, m, hP, hN, hg⟩ := hrel
    by_cases hlt : N < n
    · have hd : decide (N < n) = true := decide_eq_true hlt
      have HG : Hid (n - (N + 2) < gk ∧ N + 2 ≤ n + 1) := Lib.hid ⟨by omega, by omega⟩
      have hN9 : N + 2 ≤ 162 := by omega
      have hok := hP.ok
      have hwm := hP.wm
      clear hg h0
      go_upto_region 6 with fail
      apply wp_region_lit
      refine gw_val (by kernel_rfl) (some 22) rfl (.pointer (some ⟨gs, 0, none⟩)) (by kernel_rfl) ?_
      simp only [Act.put, List.setIfInBounds_toArray, List.set_cons_succ, List.set_cons_zero]
      refine gw_val (by kernel_rfl) (some 23) rfl (.pointer (some ⟨gs, 0, none⟩)) (by kernel_rfl) ?_
      simp only [Act.put, List.setIfInBounds_toArray, List.set_cons_succ, List.set_cons_zero]
      refine gw_val (by kernel_rfl) (some 24) rfl (.pointer (some ⟨gs, 1, none⟩)) (by kernel_rfl) ?_
      simp only [Act.put, List.setIfInBounds_toArray, List.set_cons_succ, List.set_cons_zero]
      refine gw_load (by kernel_rfl) (some 25) rfl 3 (.tmp 24) rfl ⟨gs, 1, none⟩ (.int .i64 N) (by kernel_rfl) (hP.num.load rfl (by kernel_rfl)) ?_
      simp only [Act.put, List.setIfInBounds_toArray, List.set_cons_succ, List.set_cons_zero]
      refine gw_val (by kernel_rfl) (some 26) rfl (.slice a n c) (by kernel_rfl) ?_
      simp only [Act.put, List.setIfInBounds_toArray, List.set_cons_succ, List.set_cons_zero]
      refine gw_val (by kernel_rfl) (some 27) rfl (.int .i64 n) (by kernel_rfl) ?_
      simp only [Act.put, List.setIfInBounds_toArray, List.set_cons_succ, List.set_cons_zero]
      refine gw_val (by kernel_rfl) (some 28) rfl (.bool (decide (N < n))) (lt_nat rfl N n (by kernel_rfl) (by kernel_rfl) _) ?_
      rw [hd]
      simp only [Act.put, List.setIfInBounds_toArray, List.set_cons_succ, List.set_cons_zero]
      apply wpList_nil
      have C1 := CX gs N 9 wr hP.num (by rw [← hg3]; exact hP.bel) (by omega) (by omega) (by omega)
      have hp1 := pl_range (L.getD N 0) 9 (by omega)
      generalize pl (L.getD N 0) 9 = q1 at *
      obtain ⟨t, ht⟩ : ∃ t, t = q1 - 1 := ⟨_, rfl⟩
      have hw1 : IntKind.i64.wrap (q1 - 1) = t := by rw [IntKind.wrap_i64]; omega
      have ht1 : -1 ≤ t ∧ t ≤ 7 := by omega
      clear ht
      go_upto_region 7 with fail
      apply wp_region_lit
      refine gw_val (by kernel_rfl) (some 29) rfl (.pointer (some ⟨gs, 0, none⟩)) (by kernel_rfl) ?_
      simp only [Act.put, List.setIfInBounds_toArray, List.set_cons_succ, List.set_cons_zero]
      refine gw_call (by kernel_rfl) (some 30) rfl 26 #[.pointer (some ⟨gs, 0, none⟩), .int .i64 9] (.int .i64 q1) (fun w' => But gs wr w' ∧ Bx w' gs #[.slice a n c, .int .i64 (N + 1 : Nat)] 48) (by kernel_rfl) (C1.mono fun e w' h => ⟨h.1, h.2⟩) (fun V1 hq => ?_)
      obtain ⟨hb1, hx1⟩ := hq
      have hP1 := hP.num' hC hb1 hx1
      clear hb1 hx1 hP C1
      simp only [Act.put, List.setIfInBounds_toArray, List.set_cons_succ, List.set_cons_zero]
      refine gw_val (by kernel_rfl) (some 31) rfl (.int .i64 (IntKind.i64.wrap (q1 - 1))) (by kernel_rfl) ?_
      simp only [Act.put, List.setIfInBounds_toArray, List.set_cons_succ, List.set_cons_zero]
      rw [hw1]
      refine gw_val (by kernel_rfl) (some 8) rfl (.int .i64 t) (by kernel_rfl) ?_
      simp only [Act.put, List.setIfInBounds_toArray, List.set_cons_succ, List.set_cons_zero]
      apply wpList_nil
      have C2 := CX gs (N + 1) 6 V1 hP1.num (by rw [← hg3]; exact hP1.bel) (by omega) (by omega) (by omega)
      have hp2 := pl_range (L.getD (N + 1) 0) 6 (by omega)
      generalize pl (L.getD (N + 1) 0) 6 = q2 at *
      clear hp1 hw1
      go_upto_region 9 with fail
      apply wp_region_lit
      refine gw_val (by kernel_rfl) (some 32) rfl (.pointer (some ⟨gs, 0, none⟩)) (by kernel_rfl) ?_
      simp only [Act.put, List.setIfInBounds_toArray, List.set_cons_succ, List.set_cons_zero]
      refine gw_call (by kernel_rfl) (some 33) rfl 26 #[.pointer (some ⟨gs, 0, none⟩), .int .i64 6] (.int .i64 q2) (fun w' => But gs V1 w' ∧ Bx w' gs #[.slice a n c, .int .i64 (N + 1 + 1 : Nat)] 48) (by kernel_rfl) (C2.mono fun e w' h => ⟨h.1, h.2⟩) (fun V2 hq => ?_)
      obtain ⟨hb2, hx2⟩ := hq
      have hP2 := hP1.num' hC hb2 hx2
      clear hb2 hx2 hP1 C2
      simp only [Act.put, List.setIfInBounds_toArray, List.set_cons_succ, List.set_cons_zero]
      apply wpList_nil
      rcases (show q2 = 0 ∨ q2 = 1 ∨ q2 = 2 ∨ q2 = 3 ∨ q2 = 4 ∨ q2 = 5 by omega) with rfl | rfl | rfl | rfl | rfl | rfl
      · have hw7 : IntKind.i64.wrap (t * 7) = t * 7 := by rw [IntKind.wrap_i64]; omega
        have hm1 := hok.pushB (t * 7)
        have hm2 := hwm.pushB (t * 7)
        have CR := ref_pushB m (t * 7) ea fa ec fc V2 hP2.l (by have := hok.2.2; omega) (by have := hok.1; omega)
        have CP := fun V S (h : R V gl S m) B (hS : ∀ k, S k → B ≤ k) (hB : B ≤ V.heap.size) => hC.pushB V gl S m (t * 7) B h hwm (hok.mono (by omega)) ⟨by omega, by omega⟩ hS hB
        obtain ⟨M, hM⟩ : ∃ M, M = pushB m (t * 7) := ⟨_, rfl⟩
        rw [← hM] at hm1 hm2 CR CP
        clear hM
        go_upto_region 15 with fail
        apply wp_region_lit
        refine gw_load (by kernel_rfl) (some 50) rfl 28 (.tmp 7) rfl ⟨gm, 0, none⟩ (.agg (lv ea fa ec fc m)) (by kernel_rfl) (load_lv hP2.bm) ?_
        simp only [Act.put, List.setIfInBounds_toArray, List.set_cons_succ, List.set_cons_zero]
        refine gw_val (by kernel_rfl) (some 51) rfl (.int .i64 t) (by kernel_rfl) ?_
        simp only [Act.put, List.setIfInBounds_toArray, List.set_cons_succ, List.set_cons_zero]
        refine gw_val (by kernel_rfl) (some 52) rfl (.int .i64 (IntKind.i64.wrap (t * 7))) (by kernel_rfl) ?_
        simp only [Act.put, List.setIfInBounds_toArray, List.set_cons_succ, List.set_cons_zero]
        rw [hw7]
        refine gw_callE (by kernel_rfl) (some 53) rfl 30 #[.agg (lv ea fa ec fc m), .int .i64 (t * 7)] (fun v w' => ∃ ea2 fa2 ec2 fc2, v = .tuple #[.agg (lv ea2 fa2 ec2 fc2 M.1), .int .i64 M.2] ∧ LV w' ea2 fa2 ec2 fc2 M.1 ∧ Below V2.heap.size V2 w' ∧ Fr V2 w' ea ea2 ∧ Fr V2 w' fa fa2) (by kernel_rfl) (CR.mono fun e w' h => by obtain ⟨x1, x2, x3, x4, he, h⟩ := h; exact ⟨_, he, x1, x2, x3, x4, rfl, h⟩) (fun v V3 hq => ?_)
        obtain ⟨ea2, fa2, ec2, fc2, rfl, hl3, hb3, he3, hf3⟩ := hq
        have hP3 := hP2.below hC hb3
        have hP4 := hP3.put hC hl3 (hP2.fre hC hb3 he3) (hP2.frf hC hb3 hf3) hm2 (hm1.mono (by omega))
        simp only [Act.put, List.setIfInBounds_toArray, List.set_cons_succ, List.set_cons_zero]
        refine gw_val (by kernel_rfl) (some 49) rfl (.tuple #[.agg (lv ea2 fa2 ec2 fc2 M.1), .int .i64 M.2]) (by kernel_rfl) ?_
        simp only [Act.put, List.setIfInBounds_toArray, List.set_cons_succ, List.set_cons_zero]
        refine gw_val (by kernel_rfl) (some 54) rfl (.agg (lv ea2 fa2 ec2 fc2 M.1)) (by kernel_rfl) ?_
        simp only [Act.put, List.setIfInBounds_toArray, List.set_cons_succ, List.set_cons_zero]
        refine gw_val (by kernel_rfl) (some 55) rfl (.int .i64 M.2) (by kernel_rfl) ?_
        simp only [Act.put, List.setIfInBounds_toArray, List.set_cons_succ, List.set_cons_zero]
        refine gw_store (by kernel_rfl) rfl 28 (.tmp 7) (.tmp 54) rfl (.pointer (some ⟨gm, 0, none⟩)) (.agg (lv ea2 fa2 ec2 fc2 M.1)) (by kernel_rfl) (by kernel_rfl) _ (run_store_all hP3.bm rfl (one_lv _ _ _ _ _ _ _) (by kernel_rfl)) ?_
        refine gw_val (by kernel_rfl) (some 9) rfl (.int .i64 M.2) (by kernel_rfl) ?_
        simp only [Act.put, List.setIfInBounds_toArray, List.set_cons_succ, List.set_cons_zero]
        apply wpList_nil
        generalize V3.setRow gm (lv ea2 fa2 ec2 fc2 M.1) = V4 at *
        clear hP2 hP3 hl3 hb3 he3 hf3 CR
        go_upto_region 16 with fail
        apply wp_region_lit
        refine gw_val (by kernel_rfl) (some 56) rfl (.pointer (some ⟨gl, 0, none⟩)) (by kernel_rfl) ?_
        simp only [Act.put, List.setIfInBounds_toArray, List.set_cons_succ, List.set_cons_zero]
        refine gw_val (by kernel_rfl) (some 57) rfl (.int .i64 t) (by kernel_rfl) ?_
        simp only [Act.put, List.setIfInBounds_toArray, List.set_cons_succ, List.set_cons_zero]
        refine gw_val (by kernel_rfl) (some 58) rfl (.int .i64 (IntKind.i64.wrap (t * 7))) (by kernel_rfl) ?_
        simp only [Act.put, List.setIfInBounds_toArray, List.set_cons_succ, List.set_cons_zero]
        rw [hw7]
        refine gw_call (by kernel_rfl) (some 59) rfl 25 #[.pointer (some ⟨gl, 0, none⟩), .int .i64 (t * 7)] (.int .i64 M.2) (Upd R gl B S M.1 V4) (by kernel_rfl) (CP V4 S hP4.r B (fun k hk => (hP4.so k hk).1) hP4.BV) (fun V5 hq => ?_)
        obtain ⟨S', hr5, hs5, hb5⟩ := hq
        have HP6 := Lib.hid (hP4.prog hC hr5 hs5 hb5 hm2 (hm1.mono (by omega)))
        clear hP4 hr5 hs5 hb5 CP
        simp only [Act.put, List.setIfInBounds_toArray, List.set_cons_succ, List.set_cons_zero]
        refine gw_val (by kernel_rfl) (some 60) rfl (.int .i64 M.2) (by kernel_rfl) ?_
        simp only [Act.put, List.setIfInBounds_toArray, List.set_cons_succ, List.set_cons_zero]
        refine gw_val (by kernel_rfl) (some 61) rfl (.bool (M.2 == M.2)) (by kernel_rfl) ?_
        rw [beq_self_eq_true]
        simp only [Act.put, List.setIfInBounds_toArray, List.set_cons_succ, List.set_cons_zero]
        refine gw_val (by kernel_rfl) (some 10) rfl (.bool true) (by kernel_rfl) ?_
        simp only [Act.put, List.setIfInBounds_toArray, List.set_cons_succ, List.set_cons_zero]
        apply wpList_nil
        clear hm1 hm2 hw7
        go_wp2_with fail
        go_roundg (n - (N + 1 + 1))
        case measure => exact HG.out.1
        case rel => exact ⟨N + 1 + 1, S', ea2, fa2, ec2, fc2, M.1, HP6.out, HG.out.2, rfl⟩
      · have hw7 : IntKind.i64.wrap (t * 7) = t * 7 := by rw [IntKind.wrap_i64]; omega
        have hm1 := hok.pushB (t * 7)
        have hm2 := hwm.pushB (t * 7)
        have CR := ref_pushB m (t * 7) ea fa ec fc V2 hP2.l (by have := hok.2.2; omega) (by have := hok.1; omega)
        have CP := fun V S (h : R V gl S m) B (hS : ∀ k, S k → B ≤ k) (hB : B ≤ V.heap.size) => hC.pushB V gl S m (t * 7) B h hwm (hok.mono (by omega)) ⟨by omega, by omega⟩ hS hB
        obtain ⟨M, hM⟩ : ∃ M, M = pushB m (t * 7) := ⟨_, rfl⟩
        rw [← hM] at hm1 hm2 CR CP
        clear hM
        go_upto_region 15 with fail
        apply wp_region_lit
        refine gw_load (by kernel_rfl) (some 50) rfl 28 (.tmp 7) rfl ⟨gm, 0, none⟩ (.agg (lv ea fa ec fc m)) (by kernel_rfl) (load_lv hP2.bm) ?_
        simp only [Act.put, List.setIfInBounds_toArray, List.set_cons_succ, List.set_cons_zero]
        refine gw_val (by kernel_rfl) (some 51) rfl (.int .i64 t) (by kernel_rfl) ?_
        simp only [Act.put, List.setIfInBounds_toArray, List.set_cons_succ, List.set_cons_zero]
        refine gw_val (by kernel_rfl) (some 52) rfl (.int .i64 (IntKind.i64.wrap (t * 7))) (by kernel_rfl) ?_
        simp only [Act.put, List.setIfInBounds_toArray, List.set_cons_succ, List.set_cons_zero]
        rw [hw7]
        refine gw_callE (by kernel_rfl) (some 53) rfl 30 #[.agg (lv ea fa ec fc m), .int .i64 (t * 7)] (fun v w' => ∃ ea2 fa2 ec2 fc2, v = .tuple #[.agg (lv ea2 fa2 ec2 fc2 M.1), .int .i64 M.2] ∧ LV w' ea2 fa2 ec2 fc2 M.1 ∧ Below V2.heap.size V2 w' ∧ Fr V2 w' ea ea2 ∧ Fr V2 w' fa fa2) (by kernel_rfl) (CR.mono fun e w' h => by obtain ⟨x1, x2, x3, x4, he, h⟩ := h; exact ⟨_, he, x1, x2, x3, x4, rfl, h⟩) (fun v V3 hq => ?_)
        obtain ⟨ea2, fa2, ec2, fc2, rfl, hl3, hb3, he3, hf3⟩ := hq
        have hP3 := hP2.below hC hb3
        have hP4 := hP3.put hC hl3 (hP2.fre hC hb3 he3) (hP2.frf hC hb3 hf3) hm2 (hm1.mono (by omega))
        simp only [Act.put, List.setIfInBounds_toArray, List.set_cons_succ, List.set_cons_zero]
        refine gw_val (by kernel_rfl) (some 49) rfl (.tuple #[.agg (lv ea2 fa2 ec2 fc2 M.1), .int .i64 M.2]) (by kernel_rfl) ?_
        simp only [Act.put, List.setIfInBounds_toArray, List.set_cons_succ, List.set_cons_zero]
        refine gw_val (by kernel_rfl) (some 54) rfl (.agg (lv ea2 fa2 ec2 fc2 M.1)) (by kernel_rfl) ?_
        simp only [Act.put, List.setIfInBounds_toArray, List.set_cons_succ, List.set_cons_zero]
        refine gw_val (by kernel_rfl) (some 55) rfl (.int .i64 M.2) (by kernel_rfl) ?_
        simp only [Act.put, List.setIfInBounds_toArray, List.set_cons_succ, List.set_cons_zero]
        refine gw_store (by kernel_rfl) rfl 28 (.tmp 7) (.tmp 54) rfl (.pointer (some ⟨gm, 0, none⟩)) (.agg (lv ea2 fa2 ec2 fc2 M.1)) (by kernel_rfl) (by kernel_rfl) _ (run_store_all hP3.bm rfl (one_lv _ _ _ _ _ _ _) (by kernel_rfl)) ?_
        refine gw_val (by kernel_rfl) (some 9) rfl (.int .i64 M.2) (by kernel_rfl) ?_
        simp only [Act.put, List.setIfInBounds_toArray, List.set_cons_succ, List.set_cons_zero]
        apply wpList_nil
        generalize V3.setRow gm (lv ea2 fa2 ec2 fc2 M.1) = V4 at *
        clear hP2 hP3 hl3 hb3 he3 hf3 CR
        go_upto_region 16 with fail
        apply wp_region_lit
        refine gw_val (by kernel_rfl) (some 56) rfl (.pointer (some ⟨gl, 0, none⟩)) (by kernel_rfl) ?_
        simp only [Act.put, List.setIfInBounds_toArray, List.set_cons_succ, List.set_cons_zero]
        refine gw_val (by kernel_rfl) (some 57) rfl (.int .i64 t) (by kernel_rfl) ?_
        simp only [Act.put, List.setIfInBounds_toArray, List.set_cons_succ, List.set_cons_zero]
        refine gw_val (by kernel_rfl) (some 58) rfl (.int .i64 (IntKind.i64.wrap (t * 7))) (by kernel_rfl) ?_
        simp only [Act.put, List.setIfInBounds_toArray, List.set_cons_succ, List.set_cons_zero]
        rw [hw7]
        refine gw_call (by kernel_rfl) (some 59) rfl 25 #[.pointer (some ⟨gl, 0, none⟩), .int .i64 (t * 7)] (.int .i64 M.2) (Upd R gl B S M.1 V4) (by kernel_rfl) (CP V4 S hP4.r B (fun k hk => (hP4.so k hk).1) hP4.BV) (fun V5 hq => ?_)
        obtain ⟨S', hr5, hs5, hb5⟩ := hq
        have HP6 := Lib.hid (hP4.prog hC hr5 hs5 hb5 hm2 (hm1.mono (by omega)))
        clear hP4 hr5 hs5 hb5 CP
        simp only [Act.put, List.setIfInBounds_toArray, List.set_cons_succ, List.set_cons_zero]
        refine gw_val (by kernel_rfl) (some 60) rfl (.int .i64 M.2) (by kernel_rfl) ?_
        simp only [Act.put, List.setIfInBounds_toArray, List.set_cons_succ, List.set_cons_zero]
        refine gw_val (by kernel_rfl) (some 61) rfl (.bool (M.2 == M.2)) (by kernel_rfl) ?_
        rw [beq_self_eq_true]
        simp only [Act.put, List.setIfInBounds_toArray, List.set_cons_succ, List.set_cons_zero]
        refine gw_val (by kernel_rfl) (some 10) rfl (.bool true) (by kernel_rfl) ?_
        simp only [Act.put, List.setIfInBounds_toArray, List.set_cons_succ, List.set_cons_zero]
        apply wpList_nil
        clear hm1 hm2 hw7
        go_wp2_with fail
        go_roundg (n - (N + 1 + 1))
        case measure => exact HG.out.1
        case rel => exact ⟨N + 1 + 1, S', ea2, fa2, ec2, fc2, M.1, HP6.out, HG.out.2, rfl⟩
      · have hw7 : IntKind.i64.wrap (t * 7) = t * 7 := by rw [IntKind.wrap_i64]; omega
        have hm1 := hok.pushF t
        have hm2 := hwm.pushF t
        have CR := ref_pushF m t ea fa ec fc V2 hP2.l (by have := hok.2.2; omega) (by have := hok.1; omega)
        have CP := fun V S (h : R V gl S m) B (hS : ∀ k, S k → B ≤ k) (hB : B ≤ V.heap.size) => hC.pushF V gl S m t B h hwm (hok.mono (by omega)) ⟨by omega, by omega⟩ hS hB
        obtain ⟨M, hM⟩ : ∃ M, M = pushF m t := ⟨_, rfl⟩
        rw [← hM] at hm1 hm2 CR CP
        clear hM
        go_upto_region 18 with fail
        apply wp_region_lit
        refine gw_load (by kernel_rfl) (some 65) rfl 28 (.tmp 7) rfl ⟨gm, 0, none⟩ (.agg (lv ea fa ec fc m)) (by kernel_rfl) (load_lv hP2.bm) ?_
        simp only [Act.put, List.setIfInBounds_toArray, List.set_cons_succ, List.set_cons_zero]
        refine gw_val (by kernel_rfl) (some 66) rfl (.int .i64 t) (by kernel_rfl) ?_
        simp only [Act.put, List.setIfInBounds_toArray, List.set_cons_succ, List.set_cons_zero]
        refine gw_callE (by kernel_rfl) (some 67) rfl 31 #[.agg (lv ea fa ec fc m), .int .i64 t] (fun v w' => ∃ ea2 fa2 ec2 fc2, v = .tuple #[.agg (lv ea2 fa2 ec2 fc2 M.1), .int .i64 M.2] ∧ LV w' ea2 fa2 ec2 fc2 M.1 ∧ Below V2.heap.size V2 w' ∧ Fr V2 w' ea ea2 ∧ Fr V2 w' fa fa2) (by kernel_rfl) (CR.mono fun e w' h => by obtain ⟨x1, x2, x3, x4, he, h⟩ := h; exact ⟨_, he, x1, x2, x3, x4, rfl, h⟩) (fun v V3 hq => ?_)
        obtain ⟨ea2, fa2, ec2, fc2, rfl, hl3, hb3, he3, hf3⟩ := hq
        have hP3 := hP2.below hC hb3
        have hP4 := hP3.put hC hl3 (hP2.fre hC hb3 he3) (hP2.frf hC hb3 hf3) hm2 (hm1.mono (by omega))
        simp only [Act.put, List.setIfInBounds_toArray, List.set_cons_succ, List.set_cons_zero]
        refine gw_val (by kernel_rfl) (some 64) rfl (.tuple #[.agg (lv ea2 fa2 ec2 fc2 M.1), .int .i64 M.2]) (by kernel_rfl) ?_
        simp only [Act.put, List.setIfInBounds_toArray, List.set_cons_succ, List.set_cons_zero]
        refine gw_val (by kernel_rfl) (some 68) rfl (.agg (lv ea2 fa2 ec2 fc2 M.1)) (by kernel_rfl) ?_
        simp only [Act.put, List.setIfInBounds_toArray, List.set_cons_succ, List.set_cons_zero]
        refine gw_val (by kernel_rfl) (some 69) rfl (.int .i64 M.2) (by kernel_rfl) ?_
        simp only [Act.put, List.setIfInBounds_toArray, List.set_cons_succ, List.set_cons_zero]
        refine gw_store (by kernel_rfl) rfl 28 (.tmp 7) (.tmp 68) rfl (.pointer (some ⟨gm, 0, none⟩)) (.agg (lv ea2 fa2 ec2 fc2 M.1)) (by kernel_rfl) (by kernel_rfl) _ (run_store_all hP3.bm rfl (one_lv _ _ _ _ _ _ _) (by kernel_rfl)) ?_
        refine gw_val (by kernel_rfl) (some 9) rfl (.int .i64 M.2) (by kernel_rfl) ?_
        simp only [Act.put, List.setIfInBounds_toArray, List.set_cons_succ, List.set_cons_zero]
        apply wpList_nil
        generalize V3.setRow gm (lv ea2 fa2 ec2 fc2 M.1) = V4 at *
        clear hP2 hP3 hl3 hb3 he3 hf3 CR
        go_upto_region 19 with fail
        apply wp_region_lit
        refine gw_val (by kernel_rfl) (some 70) rfl (.pointer (some ⟨gl, 0, none⟩)) (by kernel_rfl) ?_
        simp only [Act.put, List.setIfInBounds_toArray, List.set_cons_succ, List.set_cons_zero]
        refine gw_val (by kernel_rfl) (some 71) rfl (.int .i64 t) (by kernel_rfl) ?_
        simp only [Act.put, List.setIfInBounds_toArray, List.set_cons_succ, List.set_cons_zero]
        refine gw_call (by kernel_rfl) (some 72) rfl 27 #[.pointer (some ⟨gl, 0, none⟩), .int .i64 t] (.int .i64 M.2) (Upd R gl B S M.1 V4) (by kernel_rfl) (CP V4 S hP4.r B (fun k hk => (hP4.so k hk).1) hP4.BV) (fun V5 hq => ?_)
        obtain ⟨S', hr5, hs5, hb5⟩ := hq
        have HP6 := Lib.hid (hP4.prog hC hr5 hs5 hb5 hm2 (hm1.mono (by omega)))
        clear hP4 hr5 hs5 hb5 CP
        simp only [Act.put, List.setIfInBounds_toArray, List.set_cons_succ, List.set_cons_zero]
        refine gw_val (by kernel_rfl) (some 73) rfl (.int .i64 M.2) (by kernel_rfl) ?_
        simp only [Act.put, List.setIfInBounds_toArray, List.set_cons_succ, List.set_cons_zero]
        refine gw_val (by kernel_rfl) (some 74) rfl (.bool (M.2 == M.2)) (by kernel_rfl) ?_
        rw [beq_self_eq_true]
        simp only [Act.put, List.setIfInBounds_toArray, List.set_cons_succ, List.set_cons_zero]
        refine gw_val (by kernel_rfl) (some 10) rfl (.bool true) (by kernel_rfl) ?_
        simp only [Act.put, List.setIfInBounds_toArray, List.set_cons_succ, List.set_cons_zero]
        apply wpList_nil
        clear hm1 hm2 hw7
        go_wp2_with fail
        go_roundg (n - (N + 1 + 1))
        case measure => exact HG.out.1
        case rel => exact ⟨N + 1 + 1, S', ea2, fa2, ec2, fc2, M.1, HP6.out, HG.out.2, rfl⟩
      · have hm1 := hok.remove t
        have hm2 := hwm.remove t
        have CR := ref_remove m t ea fa ec fc V2 hP2.l (by have := hok.2.1; omega)
        have CP := fun V S (h : R V gl S m) B (hS : ∀ k, S k → B ≤ k) (hB : B ≤ V.heap.size) => hC.remove V gl S m t B h hwm (hok.mono (by omega)) ⟨by omega, by omega⟩ hS hB
        obtain ⟨M, hM⟩ : ∃ M, M = removeM m t := ⟨_, rfl⟩
        rw [← hM] at hm1 hm2 CR CP
        clear hM
        go_upto_region 22 with fail
        apply wp_region_lit
        refine gw_load (by kernel_rfl) (some 79) rfl 28 (.tmp 7) rfl ⟨gm, 0, none⟩ (.agg (lv ea fa ec fc m)) (by kernel_rfl) (load_lv hP2.bm) ?_
        simp only [Act.put, List.setIfInBounds_toArray, List.set_cons_succ, List.set_cons_zero]
        refine gw_val (by kernel_rfl) (some 80) rfl (.int .i64 t) (by kernel_rfl) ?_
        simp only [Act.put, List.setIfInBounds_toArray, List.set_cons_succ, List.set_cons_zero]
        refine gw_callE (by kernel_rfl) (some 81) rfl 32 #[.agg (lv ea fa ec fc m), .int .i64 t] (fun v w' => ∃ ea2 fa2 ec2 fc2, v = .tuple #[.agg (lv ea2 fa2 ec2 fc2 M.1), .bool M.2] ∧ LV w' ea2 fa2 ec2 fc2 M.1 ∧ Below V2.heap.size V2 w' ∧ Fr V2 w' ea ea2 ∧ Fr V2 w' fa fa2) (by kernel_rfl) (CR.mono fun e w' h => by obtain ⟨x1, x2, x3, x4, he, h⟩ := h; exact ⟨_, he, x1, x2, x3, x4, rfl, h⟩) (fun v V3 hq => ?_)
        obtain ⟨ea2, fa2, ec2, fc2, rfl, hl3, hb3, he3, hf3⟩ := hq
        have hP3 := hP2.below hC hb3
        have hef := hP2.fre hC hb3 he3
        have hff := hP2.frf hC hb3 hf3
        simp only [Act.put, List.setIfInBounds_toArray, List.set_cons_succ, List.set_cons_zero]
        refine gw_val (by kernel_rfl) (some 78) rfl (.tuple #[.agg (lv ea2 fa2 ec2 fc2 M.1), .bool M.2]) (by kernel_rfl) ?_
        simp only [Act.put, List.setIfInBounds_toArray, List.set_cons_succ, List.set_cons_zero]
        refine gw_val (by kernel_rfl) (some 82) rfl (.agg (lv ea2 fa2 ec2 fc2 M.1)) (by kernel_rfl) ?_
        simp only [Act.put, List.setIfInBounds_toArray, List.set_cons_succ, List.set_cons_zero]
        refine gw_val (by kernel_rfl) (some 83) rfl (.bool M.2) (by kernel_rfl) ?_
        simp only [Act.put, List.setIfInBounds_toArray, List.set_cons_succ, List.set_cons_zero]
        refine run_to rfl (some 11) rfl (.pointer (some ⟨V3.heap.size, 0, none⟩)) (V3.alloc (.cells zl 28)) (by kernel_rfl) ?_
        simp only [Act.put, List.setIfInBounds_toArray, List.set_cons_succ, List.set_cons_zero]
        apply wpList_store_new (w := V3) (ty := 28) (x := .tmp 11) (y := .tmp 82) (c := zl) (c' := lv ea2 fa2 ec2 fc2 M.1)
        case hgd => rfl
        case ho => rfl
        case hx => kernel_rfl
        case hy => kernel_rfl
        case hi => kernel_rfl
        case hz => rfl
        case h1 => exact one_lv _ _ _ _ _ _ _
        simp only [Act.put]
        refine gw_val (by kernel_rfl) (some 12) rfl (.bool M.2) (by kernel_rfl) ?_
        simp only [Act.put, List.setIfInBounds_toArray, List.set_cons_succ, List.set_cons_zero]
        apply wpList_nil
        have hb4 : Below V3.heap.size V3 (V3.alloc (.cells (lv ea2 fa2 ec2 fc2 M.1) 28)) := (Below.refl _ V3).alloc (Nat.le_refl _) _
        have hX4 : EX S g3 gs gm V3.heap.size ea2 fa2 ec2 fc2 M.1 (V3.alloc (.cells (lv ea2 fa2 ec2 fc2 M.1) 28)) :=
          { bx := heap_alloc_last V3 _, l := hl3.below hb4
            eo := fun x hx => ⟨Nat.lt_of_lt_of_le (hef x hx).1 hb4.size, (hef x hx).2⟩, fo := fun x hx => ⟨Nat.lt_of_lt_of_le (hff x hx).1 hb4.size, (hff x hx).2⟩
            xs := fun hS => by have := hC.inn hP3.r _ hS; omega }
        have hP4 := hP3.below hC hb4
        generalize V3.alloc (.cells (lv ea2 fa2 ec2 fc2 M.1) 28) = V4 at *
        generalize V3.heap.size = gx at *
        clear hP2 hP3 hl3 hb3 he3 hf3 CR hef hff hb4
        go_upto_region 23 with fail
        apply wp_region_lit
        refine gw_val (by kernel_rfl) (some 84) rfl (.pointer (some ⟨gl, 0, none⟩)) (by kernel_rfl) ?_
        simp only [Act.put, List.setIfInBounds_toArray, List.set_cons_succ, List.set_cons_zero]
        refine gw_val (by kernel_rfl) (some 85) rfl (.int .i64 t) (by kernel_rfl) ?_
        simp only [Act.put, List.setIfInBounds_toArray, List.set_cons_succ, List.set_cons_zero]
        refine gw_call (by kernel_rfl) (some 86) rfl 28 #[.pointer (some ⟨gl, 0, none⟩), .int .i64 t] (.bool M.2) (Upd R gl B S M.1 V4) (by kernel_rfl) (CP V4 S hP4.r B (fun k hk => (hP4.so k hk).1) hP4.BV) (fun V5 hq => ?_)
        obtain ⟨S', hr5, hs5, hb5⟩ := hq
        have hP5 := hP4.prog hC hr5 hs5 hb5 hm2 (hm1.mono (by omega))
        have hX5 := hX4.prog hs5 hb5
        clear hP4 hX4 hr5 hs5 hb5 CP
        simp only [Act.put, List.setIfInBounds_toArray, List.set_cons_succ, List.set_cons_zero]
        refine gw_val (by kernel_rfl) (some 87) rfl (.bool M.2) (by kernel_rfl) ?_
        simp only [Act.put, List.setIfInBounds_toArray, List.set_cons_succ, List.set_cons_zero]
        refine gw_val (by kernel_rfl) (some 88) rfl (.bool (M.2 == M.2)) (by kernel_rfl) ?_
        rw [beq_self_eq_true]
        simp only [Act.put, List.setIfInBounds_toArray, List.set_cons_succ, List.set_cons_zero]
        refine gw_val (by kernel_rfl) (some 10) rfl (.bool true) (by kernel_rfl) ?_
        simp only [Act.put, List.setIfInBounds_toArray, List.set_cons_succ, List.set_cons_zero]
        apply wpList_nil
        go_upto_region 24 with fail
        apply wp_region_lit
        refine gw_load (by kernel_rfl) (some 89) rfl 28 (.tmp 11) rfl ⟨gx, 0, none⟩ (.agg (lv ea2 fa2 ec2 fc2 M.1)) (by kernel_rfl) (load_lv hX5.bx) ?_
        simp only [Act.put, List.setIfInBounds_toArray, List.set_cons_succ, List.set_cons_zero]
        refine gw_store (by kernel_rfl) rfl 28 (.tmp 7) (.tmp 89) rfl (.pointer (some ⟨gm, 0, none⟩)) (.agg (lv ea2 fa2 ec2 fc2 M.1)) (by kernel_rfl) (by kernel_rfl) _ (run_store_all hP5.bm rfl (one_lv _ _ _ _ _ _ _) (by kernel_rfl)) ?_
        apply wpList_nil
        have HP6 := Lib.hid (hP5.put hC hX5.l hX5.eo hX5.fo hm2 (hm1.mono (by omega)))
        generalize V5.setRow gm (lv ea2 fa2 ec2 fc2 M.1) = V6 at *
        clear hP5 hX5 hm1 hm2
        go_wp2_with fail
        go_roundg (n - (N + 1 + 1))
        case measure => exact HG.out.1
        case rel => exact ⟨N + 1 + 1, S', ea2, fa2, ec2, fc2, M.1, HP6.out, HG.out.2, rfl⟩
      · have hm1 := hok.remove t
        have hm2 := hwm.remove t
        have CR := ref_remove m t ea fa ec fc V2 hP2.l (by have := hok.2.1; omega)
        have CP := fun V S (h : R V gl S m) B (hS : ∀ k, S k → B ≤ k) (hB : B ≤ V.heap.size) => hC.remove V gl S m t B h hwm (hok.mono (by omega)) ⟨by omega, by omega⟩ hS hB
        obtain ⟨M, hM⟩ : ∃ M, M = removeM m t := ⟨_, rfl⟩
        rw [← hM] at hm1 hm2 CR CP
        clear hM
        go_upto_region 22 with fail
        apply wp_region_lit
        refine gw_load (by kernel_rfl) (some 79) rfl 28 (.tmp 7) rfl ⟨gm, 0, none⟩ (.agg (lv ea fa ec fc m)) (by kernel_rfl) (load_lv hP2.bm) ?_
        simp only [Act.put, List.setIfInBounds_toArray, List.set_cons_succ, List.set_cons_zero]
        refine gw_val (by kernel_rfl) (some 80) rfl (.int .i64 t) (by kernel_rfl) ?_
        simp only [Act.put, List.setIfInBounds_toArray, List.set_cons_succ, List.set_cons_zero]
        refine gw_callE (by kernel_rfl) (some 81) rfl 32 #[.agg (lv ea fa ec fc m), .int .i64 t] (fun v w' => ∃ ea2 fa2 ec2 fc2, v = .tuple #[.agg (lv ea2 fa2 ec2 fc2 M.1), .bool M.2] ∧ LV w' ea2 fa2 ec2 fc2 M.1 ∧ Below V2.heap.size V2 w' ∧ Fr V2 w' ea ea2 ∧ Fr V2 w' fa fa2) (by kernel_rfl) (CR.mono fun e w' h => by obtain ⟨x1, x2, x3, x4, he, h⟩ := h; exact ⟨_, he, x1, x2, x3, x4, rfl, h⟩) (fun v V3 hq => ?_)
        obtain ⟨ea2, fa2, ec2, fc2, rfl, hl3, hb3, he3, hf3⟩ := hq
        have hP3 := hP2.below hC hb3
        have hef := hP2.fre hC hb3 he3
        have hff := hP2.frf hC hb3 hf3
        simp only [Act.put, List.setIfInBounds_toArray, List.set_cons_succ, List.set_cons_zero]
        refine gw_val (by kernel_rfl) (some 78) rfl (.tuple #[.agg (lv ea2 fa2 ec2 fc2 M.1), .bool M.2]) (by kernel_rfl) ?_
        simp only [Act.put, List.setIfInBounds_toArray, List.set_cons_succ, List.set_cons_zero]
        refine gw_val (by kernel_rfl) (some 82) rfl (.agg (lv ea2 fa2 ec2 fc2 M.1)) (by kernel_rfl) ?_
        simp only [Act.put, List.setIfInBounds_toArray, List.set_cons_succ, List.set_cons_zero]
        refine gw_val (by kernel_rfl) (some 83) rfl (.bool M.2) (by kernel_rfl) ?_
        simp only [Act.put, List.setIfInBounds_toArray, List.set_cons_succ, List.set_cons_zero]
        refine run_to rfl (some 11) rfl (.pointer (some ⟨V3.heap.size, 0, none⟩)) (V3.alloc (.cells zl 28)) (by kernel_rfl) ?_
        simp only [Act.put, List.setIfInBounds_toArray, List.set_cons_succ, List.set_cons_zero]
        apply wpList_store_new (w := V3) (ty := 28) (x := .tmp 11) (y := .tmp 82) (c := zl) (c' := lv ea2 fa2 ec2 fc2 M.1)
        case hgd => rfl
        case ho => rfl
        case hx => kernel_rfl
        case hy => kernel_rfl
        case hi => kernel_rfl
        case hz => rfl
        case h1 => exact one_lv _ _ _ _ _ _ _
        simp only [Act.put]
        refine gw_val (by kernel_rfl) (some 12) rfl (.bool M.2) (by kernel_rfl) ?_
        simp only [Act.put, List.setIfInBounds_toArray, List.set_cons_succ, List.set_cons_zero]
        apply wpList_nil
        have hb4 : Below V3.heap.size V3 (V3.alloc (.cells (lv ea2 fa2 ec2 fc2 M.1) 28)) := (Below.refl _ V3).alloc (Nat.le_refl _) _
        have hX4 : EX S g3 gs gm V3.heap.size ea2 fa2 ec2 fc2 M.1 (V3.alloc (.cells (lv ea2 fa2 ec2 fc2 M.1) 28)) :=
          { bx := heap_alloc_last V3 _, l := hl3.below hb4
            eo := fun x hx => ⟨Nat.lt_of_lt_of_le (hef x hx).1 hb4.size, (hef x hx).2⟩, fo := fun x hx => ⟨Nat.lt_of_lt_of_le (hff x hx).1 hb4.size, (hff x hx).2⟩
            xs := fun hS => by have := hC.inn hP3.r _ hS; omega }
        have hP4 := hP3.below hC hb4
        generalize V3.alloc (.cells (lv ea2 fa2 ec2 fc2 M.1) 28) = V4 at *
        generalize V3.heap.size = gx at *
        clear hP2 hP3 hl3 hb3 he3 hf3 CR hef hff hb4
        go_upto_region 23 with fail
        apply wp_region_lit
        refine gw_val (by kernel_rfl) (some 84) rfl (.pointer (some ⟨gl, 0, none⟩)) (by kernel_rfl) ?_
        simp only [Act.put, List.setIfInBounds_toArray, List.set_cons_succ, List.set_cons_zero]
        refine gw_val (by kernel_rfl) (some 85) rfl (.int .i64 t) (by kernel_rfl) ?_
        simp only [Act.put, List.setIfInBounds_toArray, List.set_cons_succ, List.set_cons_zero]
        refine gw_call (by kernel_rfl) (some 86) rfl 28 #[.pointer (some ⟨gl, 0, none⟩), .int .i64 t] (.bool M.2) (Upd R gl B S M.1 V4) (by kernel_rfl) (CP V4 S hP4.r B (fun k hk => (hP4.so k hk).1) hP4.BV) (fun V5 hq => ?_)
        obtain ⟨S', hr5, hs5, hb5⟩ := hq
        have hP5 := hP4.prog hC hr5 hs5 hb5 hm2 (hm1.mono (by omega))
        have hX5 := hX4.prog hs5 hb5
        clear hP4 hX4 hr5 hs5 hb5 CP
        simp only [Act.put, List.setIfInBounds_toArray, List.set_cons_succ, List.set_cons_zero]
        refine gw_val (by kernel_rfl) (some 87) rfl (.bool M.2) (by kernel_rfl) ?_
        simp only [Act.put, List.setIfInBounds_toArray, List.set_cons_succ, List.set_cons_zero]
        refine gw_val (by kernel_rfl) (some 88) rfl (.bool (M.2 == M.2)) (by kernel_rfl) ?_
        rw [beq_self_eq_true]
        simp only [Act.put, List.setIfInBounds_toArray, List.set_cons_succ, List.set_cons_zero]
        refine gw_val (by kernel_rfl) (some 10) rfl (.bool true) (by kernel_rfl) ?_
        simp only [Act.put, List.setIfInBounds_toArray, List.set_cons_succ, List.set_cons_zero]
        apply wpList_nil
        go_upto_region 24 with fail
        apply wp_region_lit
        refine gw_load (by kernel_rfl) (some 89) rfl 28 (.tmp 11) rfl ⟨gx, 0, none⟩ (.agg (lv ea2 fa2 ec2 fc2 M.1)) (by kernel_rfl) (load_lv hX5.bx) ?_
        simp only [Act.put, List.setIfInBounds_toArray, List.set_cons_succ, List.set_cons_zero]
        refine gw_store (by kernel_rfl) rfl 28 (.tmp 7) (.tmp 89) rfl (.pointer (some ⟨gm, 0, none⟩)) (.agg (lv ea2 fa2 ec2 fc2 M.1)) (by kernel_rfl) (by kernel_rfl) _ (run_store_all hP5.bm rfl (one_lv _ _ _ _ _ _ _) (by kernel_rfl)) ?_
        apply wpList_nil
        have HP6 := Lib.hid (hP5.put hC hX5.l hX5.eo hX5.fo hm2 (hm1.mono (by omega)))
        generalize V5.setRow gm (lv ea2 fa2 ec2 fc2 M.1) = V6 at *
        clear hP5 hX5 hm1 hm2
        go_wp2_with fail
        go_roundg (n - (N + 1 + 1))
        case measure => exact HG.out.1
        case rel => exact ⟨N + 1 + 1, S', ea2, fa2, ec2, fc2, M.1, HP6.out, HG.out.2, rfl⟩
      · have hm1 := hok.move t
        have hm2 := hwm.move t
        have CR := ref_move m t ea fa ec fc V2 hP2.l
        have CP := fun V S (h : R V gl S m) B (hS : ∀ k, S k → B ≤ k) (hB : B ≤ V.heap.size) => hC.move V gl S m t B h hwm (hok.mono (by omega)) ⟨by omega, by omega⟩ hS hB
        obtain ⟨M, hM⟩ : ∃ M, M = moveM m t := ⟨_, rfl⟩
        rw [← hM] at hm1 hm2 CR CP
        clear hM
        go_upto_region 10 with fail
        apply wp_region_lit
        refine gw_load (by kernel_rfl) (some 35) rfl 28 (.tmp 7) rfl ⟨gm, 0, none⟩ (.agg (lv ea fa ec fc m)) (by kernel_rfl) (load_lv hP2.bm) ?_
        simp only [Act.put, List.setIfInBounds_toArray, List.set_cons_succ, List.set_cons_zero]
        refine gw_val (by kernel_rfl) (some 36) rfl (.int .i64 t) (by kernel_rfl) ?_
        simp only [Act.put, List.setIfInBounds_toArray, List.set_cons_succ, List.set_cons_zero]
        refine gw_callE (by kernel_rfl) (some 37) rfl 33 #[.agg (lv ea fa ec fc m), .int .i64 t] (fun v w' => ∃ ea2 fa2 ec2 fc2, v = .tuple #[.agg (lv ea2 fa2 ec2 fc2 M.1), .bool M.2] ∧ LV w' ea2 fa2 ec2 fc2 M.1 ∧ Below V2.heap.size V2 w' ∧ Fr V2 w' ea ea2 ∧ Fr V2 w' fa fa2) (by kernel_rfl) (CR.mono fun e w' h => by obtain ⟨x1, x2, x3, x4, he, h⟩ := h; exact ⟨_, he, x1, x2, x3, x4, rfl, h⟩) (fun v V3 hq => ?_)
        obtain ⟨ea2, fa2, ec2, fc2, rfl, hl3, hb3, he3, hf3⟩ := hq
        have hP3 := hP2.below hC hb3
        have hef := hP2.fre hC hb3 he3
        have hff := hP2.frf hC hb3 hf3
        simp only [Act.put, List.setIfInBounds_toArray, List.set_cons_succ, List.set_cons_zero]
        refine gw_val (by kernel_rfl) (some 34) rfl (.tuple #[.agg (lv ea2 fa2 ec2 fc2 M.1), .bool M.2]) (by kernel_rfl) ?_
        simp only [Act.put, List.setIfInBounds_toArray, List.set_cons_succ, List.set_cons_zero]
        refine gw_val (by kernel_rfl) (some 38) rfl (.agg (lv ea2 fa2 ec2 fc2 M.1)) (by kernel_rfl) ?_
        simp only [Act.put, List.setIfInBounds_toArray, List.set_cons_succ, List.set_cons_zero]
        refine gw_val (by kernel_rfl) (some 39) rfl (.bool M.2) (by kernel_rfl) ?_
        simp only [Act.put, List.setIfInBounds_toArray, List.set_cons_succ, List.set_cons_zero]
        refine run_to rfl (some 13) rfl (.pointer (some ⟨V3.heap.size, 0, none⟩)) (V3.alloc (.cells zl 28)) (by kernel_rfl) ?_
        simp only [Act.put, List.setIfInBounds_toArray, List.set_cons_succ, List.set_cons_zero]
        apply wpList_store_new (w := V3) (ty := 28) (x := .tmp 13) (y := .tmp 38) (c := zl) (c' := lv ea2 fa2 ec2 fc2 M.1)
        case hgd => rfl
        case ho => rfl
        case hx => kernel_rfl
        case hy => kernel_rfl
        case hi => kernel_rfl
        case hz => rfl
        case h1 => exact one_lv _ _ _ _ _ _ _
        simp only [Act.put]
        refine gw_val (by kernel_rfl) (some 14) rfl (.bool M.2) (by kernel_rfl) ?_
        simp only [Act.put, List.setIfInBounds_toArray, List.set_cons_succ, List.set_cons_zero]
        apply wpList_nil
        have hb4 : Below V3.heap.size V3 (V3.alloc (.cells (lv ea2 fa2 ec2 fc2 M.1) 28)) := (Below.refl _ V3).alloc (Nat.le_refl _) _
        have hX4 : EX S g3 gs gm V3.heap.size ea2 fa2 ec2 fc2 M.1 (V3.alloc (.cells (lv ea2 fa2 ec2 fc2 M.1) 28)) :=
          { bx := heap_alloc_last V3 _, l := hl3.below hb4
            eo := fun x hx => ⟨Nat.lt_of_lt_of_le (hef x hx).1 hb4.size, (hef x hx).2⟩, fo := fun x hx => ⟨Nat.lt_of_lt_of_le (hff x hx).1 hb4.size, (hff x hx).2⟩
            xs := fun hS => by have := hC.inn hP3.r _ hS; omega }
        have hP4 := hP3.below hC hb4
        generalize V3.alloc (.cells (lv ea2 fa2 ec2 fc2 M.1) 28) = V4 at *
        generalize V3.heap.size = gx at *
        clear hP2 hP3 hl3 hb3 he3 hf3 CR hef hff hb4
        go_upto_region 11 with fail
        apply wp_region_lit
        refine gw_val (by kernel_rfl) (some 40) rfl (.pointer (some ⟨gl, 0, none⟩)) (by kernel_rfl) ?_
        simp only [Act.put, List.setIfInBounds_toArray, List.set_cons_succ, List.set_cons_zero]
        refine gw_val (by kernel_rfl) (some 41) rfl (.int .i64 t) (by kernel_rfl) ?_
        simp only [Act.put, List.setIfInBounds_toArray, List.set_cons_succ, List.set_cons_zero]
        refine gw_call (by kernel_rfl) (some 42) rfl 29 #[.pointer (some ⟨gl, 0, none⟩), .int .i64 t] (.bool M.2) (Upd R gl B S M.1 V4) (by kernel_rfl) (CP V4 S hP4.r B (fun k hk => (hP4.so k hk).1) hP4.BV) (fun V5 hq => ?_)
        obtain ⟨S', hr5, hs5, hb5⟩ := hq
        have hP5 := hP4.prog hC hr5 hs5 hb5 hm2 (hm1.mono (by omega))
        have hX5 := hX4.prog hs5 hb5
        clear hP4 hX4 hr5 hs5 hb5 CP
        simp only [Act.put, List.setIfInBounds_toArray, List.set_cons_succ, List.set_cons_zero]
        refine gw_val (by kernel_rfl) (some 43) rfl (.bool M.2) (by kernel_rfl) ?_
        simp only [Act.put, List.setIfInBounds_toArray, List.set_cons_succ, List.set_cons_zero]
        refine gw_val (by kernel_rfl) (some 44) rfl (.bool (M.2 == M.2)) (by kernel_rfl) ?_
        rw [beq_self_eq_true]
        simp only [Act.put, List.setIfInBounds_toArray, List.set_cons_succ, List.set_cons_zero]
        refine gw_val (by kernel_rfl) (some 10) rfl (.bool true) (by kernel_rfl) ?_
        simp only [Act.put, List.setIfInBounds_toArray, List.set_cons_succ, List.set_cons_zero]
        apply wpList_nil
        go_upto_region 12 with fail
        apply wp_region_lit
        refine gw_load (by kernel_rfl) (some 45) rfl 28 (.tmp 13) rfl ⟨gx, 0, none⟩ (.agg (lv ea2 fa2 ec2 fc2 M.1)) (by kernel_rfl) (load_lv hX5.bx) ?_
        simp only [Act.put, List.setIfInBounds_toArray, List.set_cons_succ, List.set_cons_zero]
        refine gw_store (by kernel_rfl) rfl 28 (.tmp 7) (.tmp 45) rfl (.pointer (some ⟨gm, 0, none⟩)) (.agg (lv ea2 fa2 ec2 fc2 M.1)) (by kernel_rfl) (by kernel_rfl) _ (run_store_all hP5.bm rfl (one_lv _ _ _ _ _ _ _) (by kernel_rfl)) ?_
        apply wpList_nil
        have HP6 := Lib.hid (hP5.put hC hX5.l hX5.eo hX5.fo hm2 (hm1.mono (by omega)))
        generalize V5.setRow gm (lv ea2 fa2 ec2 fc2 M.1) = V6 at *
        clear hP5 hX5 hm1 hm2
        go_wp2_with fail
        go_roundg (n - (N + 1 + 1))
        case measure => exact HG.out.1
        case rel => exact ⟨N + 1 + 1, S', ea2, fa2, ec2, fc2, M.1, HP6.out, HG.out.2, rfl⟩
    · have hd : decide (N < n) = false := decide_eq_false hlt
      clear hg h0 CX
      go_upto_region 6 with fail
      apply wp_region_lit
      refine gw_val (by kernel_rfl) (some 22) rfl (.pointer (some ⟨gs, 0, none⟩)) (by kernel_rfl) ?_
      simp only [Act.put, List.setIfInBounds_toArray, List.set_cons_succ, List.set_cons_zero]
      refine gw_val (by kernel_rfl) (some 23) rfl (.pointer (some ⟨gs, 0, none⟩)) (by kernel_rfl) ?_
      simp only [Act.put, List.setIfInBounds_toArray, List.set_cons_succ, List.set_cons_zero]
      refine gw_val (by kernel_rfl) (some 24) rfl (.pointer (some ⟨gs, 1, none⟩)) (by kernel_rfl) ?_
      simp only [Act.put, List.setIfInBounds_toArray, List.set_cons_succ, List.set_cons_zero]
      refine gw_load (by kernel_rfl) (some 25) rfl 3 (.tmp 24) rfl ⟨gs, 1, none⟩ (.int .i64 N) (by kernel_rfl) (hP.num.load rfl (by kernel_rfl)) ?_
      simp only [Act.put, List.setIfInBounds_toArray, List.set_cons_succ, List.set_cons_zero]
      refine gw_val (by kernel_rfl) (some 26) rfl (.slice a n c) (by kernel_rfl) ?_
      simp only [Act.put, List.setIfInBounds_toArray, List.set_cons_succ, List.set_cons_zero]
      refine gw_val (by kernel_rfl) (some 27) rfl (.int .i64 n) (by kernel_rfl) ?_
      simp only [Act.put, List.setIfInBounds_toArray, List.set_cons_succ, List.set_cons_zero]
      refine gw_val (by kernel_rfl) (some 28) rfl (.bool (decide (N < n))) (lt_nat rfl N n (by kernel_rfl) (by kernel_rfl) _) ?_
      rw [hd]
      simp only [Act.put, List.setIfInBounds_toArray, List.set_cons_succ, List.set_cons_zero]
      apply wpList_nil
      go_upto_region 27 with fail
      have h0 : But g3 wr { wr with drawn := wr.drawn + 1 } ∧ Bx { wr with drawn := wr.drawn + 1 } g3 (cond false (lv ea fa ec fc m) zl) 28 := ⟨⟨(Below.refl _ wr).drew, fun _ _ _ => rfl⟩, hP.z⟩
      refine wp_region_inv (fun listed act9 V => ∃ b0 b1 b2 b3 b4 : Bool, listed = #[b0, b1, b2, b3, b4] ∧ act9 = { tmps := #[.slice a n c, undef, (cond b2 (.pointer (some ⟨gl, 0, none⟩)) (u2)), .pointer (some ⟨g3, 0, none⟩), (cond b4 (.bool true) (u4)), .pointer (some ⟨gs, 0, none⟩), .pointer (some ⟨gl, 0, none⟩), .pointer (some ⟨gm, 0, none⟩), u8, u9, u10, u11, u12, u13, u14, .slice a n c, .pointer (some ⟨gs, 0, none⟩), .pointer (some ⟨gl, 0, none⟩), .pointer (some ⟨gl, 0, none⟩), .bool false, undef, undef, .pointer (some ⟨gs, 0, none⟩), .pointer (some ⟨gs, 0, none⟩), .pointer (some ⟨gs, 1, none⟩), .int .i64 N, .slice a n c, .int .i64 n, .bool false, u29, u30, u31, u32, u33, u34, u35, u36, u37, u38, u39, u40, u41, u42, u43, u44, u45, u46, u47, u48, u49, u50, u51, u52, u53, u54, u55, u56, u57, u58, u59, u60, u61, u62, u63, u64, u65, u66, u67, u68, u69, u70, u71, u72, u73, u74, u75, u76, u77, u78, u79, u80, u81, u82, u83, u84, u85, u86, u87, u88, u89, u90, u91, u92, u93, (cond b0 (.pointer (some ⟨gl, 0, none⟩)) undef), (cond b1 (.agg (lv ea fa ec fc m)) undef)], defers := [] } ∧ But g3 wr V ∧ Bx V g3 (cond b3 (lv ea fa ec fc m) zl) 28) (by kernel_rfl) (by kernel_rfl) ?_ ?_ ?_
      · exact ⟨false, false, false, false, false, rfl, rfl, h0⟩
      · intro i9 listed act9 V hi hr hJ
        obtain ⟨b0, b1, b2, b3, b4, rfl, rfl, hF⟩ := hJ
        have hi2 : i9 < 5 := hi
        have hi3 : i9 = 0 ∨ i9 = 1 ∨ i9 = 2 ∨ i9 = 3 ∨ i9 = 4 := by omega
        rcases hi3 with rfl | rfl | rfl | rfl | rfl
        · obtain rfl : b0 = false := ready_self hr
          refine st_val rfl (by kernel_rfl) (some 94) rfl (.pointer (some ⟨gl, 0, none⟩)) V (by kernel_rfl) ?_
          exact ⟨true, b1, b2, b3, b4, rfl, rfl, hF⟩
        · obtain rfl : b1 = false := ready_self hr
          refine st_load rfl (by kernel_rfl) (some 95) rfl 28 (.tmp 7) rfl ⟨gm, 0, none⟩ (.agg (lv ea fa ec fc m)) (by kernel_rfl) (load_lv (hP.bm.but hF.1 hP.gms.1)) ?_
          exact ⟨b0, true, b2, b3, b4, rfl, rfl, hF⟩
        · obtain rfl : b2 = false := ready_self hr
          obtain rfl : b0 = true := ready_dep hr 0 (by kernel_rfl)
          refine st_val rfl (by kernel_rfl) (some 2) rfl (.pointer (some ⟨gl, 0, none⟩)) V (by kernel_rfl) ?_
          exact ⟨true, b1, true, b3, b4, rfl, rfl, hF⟩
        · obtain rfl : b3 = false := ready_self hr
          obtain rfl : b1 = true := ready_dep hr 1 (by kernel_rfl)
          refine st_store rfl (by kernel_rfl) rfl 28 (.tmp 3) (.tmp 95) rfl g3 zl (lv ea fa ec fc m) (by kernel_rfl) (by kernel_rfl) hF.2 (by kernel_rfl) rfl (one_lv _ _ _ _ _ _ _) ?_
          exact ⟨b0, true, b2, true, b4, rfl, rfl, hF.1.trans (But.setRow V _), Bx.set (cs := zl) hF.2⟩
        · obtain rfl : b4 = false := ready_self hr
          refine st_val rfl (by kernel_rfl) (some 4) rfl (.bool true) V (by kernel_rfl) ?_
          exact ⟨b0, b1, b2, b3, true, rfl, rfl, hF⟩
      · intro act9 V hJ
        obtain ⟨b0, b1, b2, b3, b4, he, rfl, hF⟩ := hJ
        have he : (#[true, true, true, true, true] : Array Bool) = #[b0, b1, b2, b3, b4] := he
        simp only [Array.mk.injEq, List.cons.injEq, and_true] at he
        obtain ⟨rfl, rfl, rfl, rfl, rfl⟩ := he
        simp only [cond_true]
        obtain ⟨hb9, hz9⟩ := hF
        have hz : Bx V g3 (lv ea fa ec fc m) 28 := hz9
        have HZ := Lib.hid hz
        have hbw : Below g3 w V := by
          have := hP.bel
          rw [hg3] at this
          exact this.trans hb9.1
        have HB := Lib.hid hbw
        have HR : Hid (R V gl S m) := Lib.hid (hC.keep hP.r hb9.1.size fun k hk => hb9.2 k (hC.inn hP.r k hk) (hP.so k hk).2.1)
        have HL2 : Hid (LV V ea fa ec fc m) := Lib.hid { hP.l with e := hP.l.e.but hb9 fun x hx => (hP.eo x hx).2.1, f := hP.l.f.but hb9 fun x hx => (hP.fo x hx).2.1 }
        have HW := Lib.hid hP.wm
        have HO : Hid (Ok m 200) := Lib.hid (hP.ok.mono (by omega))
        have HS : Hid (∀ k, S k → g3 ≤ k) := Lib.hid fun k hk => Nat.le_trans hBw (hP.so k hk).1
        clear hP hz hz9 hb9 hbw h0 he hBw
        go_wp2_with fail
        refine bodyPost_ret (results_play (p := 3) (q := 2) (r := 4) (by kernel_rfl) (by kernel_rfl) (by kernel_rfl) (by kernel_rfl) HZ.out (by kernel_rfl)) rfl ⟨gl, S, ea, fa, ec, fc, m, rfl, HR.out, HL2.out, HW.out, HO.out, ?_, ?_⟩
        · rw [hg3]; exact HB.out
        · rw [hg3]; exact HS.out
end Go.Proofs.Ytefinpapkjgpoaa
