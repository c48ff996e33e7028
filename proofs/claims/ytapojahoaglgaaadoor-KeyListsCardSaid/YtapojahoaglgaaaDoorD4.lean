/-
  The walk of KeyLists.
-/
import Derived.Test.YtapojahoaglgaaaDoorKN1
import Derived.Maps.AppendAt
namespace Go.Proofs.YtapojahoaglgaaaDoor
open Go.RowKit

/-- 'append' at the operation, its run known. -/
theorem append_step {P : Program} {w : World} {ops : Array Oper} {rest : List Oper} {o : Oper} {a : Act} {Q : Exit → Act → World → Prop} (hgd : o.guard = none) (d : Option Tmp) (hd : o.dst = d) (ty : TypeId) (hty : o.type = ty) (s x : Operand) (t : TypeId)
    (ho : o.op = .call { callee := .builtin .append, args := #[s, x], argTypes := #[t, t] }) (v u v' : Value) (w' : World) (hs : a.eval s = v) (hx : a.eval x = u)
    (hr : (Builtin.append_ #[t, t] ty #[v, u]).run P w = .ok v' w') (k : wpList P ops Q rest (a.put d v') w') : wpList P ops Q (o :: rest) a w := by
  subst hd
  subst hty
  refine wpList_plain hgd fun K hK => ?_
  unfold Oper.wp execOp
  simp only [ho, resolve, invoke, builtin, Sem.run_bind, Sem.run_pure, Result.andThen_ok, List.map_toArray, List.map_cons, List.map_nil, hs, hx, hr]
  exact hK _ _ k

/-- A key is appended to a row of the call's own: the new row, and the old one as it was. -/
theorem append_key {w : World} {B : Nat} {a : Option Addr} {c : Nat} {Ms : List (List Int)} (hO : OwnK w B (.slice a Ms.length c) Ms) (k : List Int) (hk : k.length = 32) (g : Nat) (hA : Ab w g 25 k) (hB : B ≤ w.heap.size) (hl : Ms.length ≤ 1000) :
    ∃ v' w', (Builtin.append_ #[36, 36] 36 #[.slice a Ms.length c, .slice (some ⟨g, 0, none⟩) 1 1]).run Tryd.prog w = .ok v' w' ∧ OwnK w' B v' (Ms ++ [k]) ∧ Rk w' a Ms ∧ Below B w w' := by
  obtain ⟨i0, hi, hz0, hz1, hz2⟩ := info_parts info25
  have hu : Tryd.prog.underlying 36 = some (.slice 25) := by kernel_rfl
  have hn : ∀ j u, (k.map (Value.int .u8))[j]? = some u → w.cell? ((⟨g, 0, none⟩ : Addr).add j) = some u := fun j u hj => by
    have e : (⟨g, 0, none⟩ : Addr).add j = ⟨g, j, none⟩ := by unfold Addr.add; split <;> simp_all
    rw [e, cell_of_row w g j _ 25 (0, 0) hA]
    simpa using hj
  have hkl : (k.map (Value.int .u8)).length = 1 * 32 := by rw [List.length_map, hk]
  obtain ⟨v', w', hr, h2, h3, h4, h5⟩ := run_append_own_at (P := Tryd.prog) w B 36 36 25 i0 _ 32 32 hu hi hz0 hz1 hz2 rfl (by decide) _ Ms.length (kcells Ms) hO.1 ⟨g, 0, none⟩ 1 1 (k.map (Value.int .u8)) hkl hn (ints_oneCell _ _) (by unfold maxLen; omega) (by omega) hB
  have hb : Below B w w' := (Below.refl _ w).grown h3 hB (fun j hj => (hO.1.lt j hj).1)
  have hOK : OwnK w' B v' (Ms ++ [k]) := by
    refine ⟨?_, fun x hx => ?_⟩
    · rw [kcells_snoc, List.length_append]
      exact h2
    · rcases List.mem_append.1 hx with h | h
      · exact hO.2 x h
      · rw [List.mem_singleton.1 h]
        exact hk
  refine ⟨v', w', hr, hOK, ?_, hb⟩
  rcases hO.1.2 with ⟨-, h0⟩ | ⟨g0, cap, cur, ev, hbg, hg0, hnc, hcm, hcs, htk⟩
  · intro i hi
    omega
  · simp only [Value.slice.injEq] at ev
    obtain ⟨rfl, -, rfl⟩ := ev
    have hlt : g0 < w.heap.size := (Array.getElem?_eq_some_iff.1 hg0).1
    have hown : (Value.slice (some ⟨g0, 0, none⟩) Ms.length c).ownBlock = some g0 := rfl
    rw [hown] at h5
    rcases h5 with h5 | h5
    · obtain ⟨a2, c2, rfl, hR, -⟩ := hOK.rk
      have ha2 : a2 = some ⟨g0, 0, none⟩ := by
        rcases h2.2 with ⟨e, -⟩ | ⟨g1, cap1, cur1, e, -⟩
        · rw [e] at h5
          cases h5
        · rw [e] at h5
          simp only [Value.slice.injEq] at e
          obtain ⟨rfl, -, -⟩ := e
          simp only [Value.ownBlock, Option.some.injEq] at h5
          rw [h5]
      rw [ha2] at hR
      have := hR.take Ms.length
      rwa [List.take_left] at this
    · have hbw : Below w.heap.size w w' := by
        by_cases hroom : Ms.length + 1 ≤ c
        · have hr2 := run_append_room (P := Tryd.prog) w 36 36 25 i0 hu hi g0 Ms.length c cur hg0 ⟨g, 0, none⟩ 1 1 (k.map (Value.int .u8)) (by rw [hz1]; exact hkl) hn (ints_oneCell _ _) hroom (by rw [hz1, hkl, hcs]; omega)
          rw [hr] at hr2
          simp only [Result.ok.injEq] at hr2
          rw [hr2.1] at h5
          simp only [Value.ownBlock, Option.some.injEq] at h5
          omega
        · have hr2 := run_append_grow (P := Tryd.prog) w 36 36 25 i0 _ hu hi hz0 ⟨g0, 0, none⟩ Ms.length c (kcells Ms) (by rw [hz1]; exact hO.1.1) (hO.1.cells (g := g0) rfl) ⟨g, 0, none⟩ 1 1 (k.map (Value.int .u8)) (by rw [hz1]; exact hkl) hn (by omega) (by omega) (growslice_fits (by omega) (by rw [hz2]; omega))
          rw [hr] at hr2
          simp only [Result.ok.injEq] at hr2
          rw [hr2.2]
          exact ((Below.refl _ w).drew).alloc (Nat.le_refl _) _
      obtain ⟨a2, c2, e2, hR, -⟩ := hO.rk
      simp only [Value.slice.injEq] at e2
      obtain ⟨rfl, -, -⟩ := e2
      exact hR.below hbw

/-- What the loop knows of its world. -/
def KL (w : World) (am : Option Addr) (Ms : List (List Int)) (ar : Option Addr) (Rs : List (List Int)) (av : Option Addr) (Ns : List (List Int)) (wx : World) : Prop := Rk wx am Ms ∧ Rk wx ar Rs ∧ Rk wx av Ns ∧ Glob wx ∧ Below w.heap.size w wx
theorem KL.below {w wx w' : World} {am ar av : Option Addr} {Ms Rs Ns : List (List Int)} (h : KL w am Ms ar Rs av Ns wx) (hg : 0 + 2 + 1 ≤ w.heap.size) (hb : Below wx.heap.size wx w') : KL w am Ms ar Rs av Ns w' :=
  ⟨h.1.below hb, h.2.1.below hb, h.2.2.1.below hb, h.2.2.2.1.below (Nat.le_trans hg h.2.2.2.2.size) hb, h.2.2.2.2.trans (hb.mono h.2.2.2.2.size)⟩

set_option maxRecDepth 100000 in
set_option maxHeartbeats 8000000 in
theorem lists_core (al : Option Addr) (cl : Nat) (L : List Int) (K : List Int) (ar : Option Addr) (cr : Nat) (Rs : List (List Int)) (w : World) (hS : Sl w al cl L) (h8 : ∀ x, x ∈ L → W8 x) (hK : K.length = 32) (hcr : Rs.length ≤ cr) (hR : Rk w ar Rs) (hG : Glob w) :
    Calls Tryd.prog 6 #[.slice al L.length cl, .agg (w8s K), .slice ar Rs.length cr] w fun e w' => e = .returned (.bool true) ∧ Below w.heap.size w w' := by
  have hg2 := hG.size
  have hb0 : Below w.heap.size w (w.alloc (.cells (w8s K) 25)) := (Below.refl _ w).alloc (by simp) _
  have hA0 : Ab (w.alloc (.cells (w8s K) 25)) w.heap.size 25 K := heap_alloc_last w _
  have CK1 := known_true (w.alloc (.cells (w8s K) 25)) (hG.below hg2 hb0)
  have CY := fun h => keys_any al cl L (w.alloc (.cells (w8s K) 25)) (sl_below hS hb0) h8 h
  have hMl : (keysL L).length = L.length := by simp [keysL]
  have hs0 : (w.alloc (.cells (w8s K) 25)).heap.size = w.heap.size + 1 := by simp
  have HK := Lib.hid hK
  have HR := Lib.hid hR
  have HG := Lib.hid hG
  clear hS h8 hK hR hG
  by_cases hl : 20 < L.length
  · have hd : decide (20 < (L.length : Int)) = true := decide_eq_true (by omega)
    clear CY hMl
    generalize L.length = n at *
    go_enter Tryd.func6, Tryd.ntmps6
    go_upto_region 1 with fail
    change Code.wp _ _ _ _ (w.alloc (.cells (w8s K) 25))
    generalize w.alloc (.cells (w8s K) 25) = W at *
    go_wp2_with (go_at_call 7; refine CK1.mono ?_; rintro e w1 ⟨rfl, hb1⟩)
    go_ret
    exact ⟨rfl, hb0.trans (hb1.mono hb0.size)⟩
  · have hd : decide (20 < (L.length : Int)) = false := decide_eq_false (by omega)
    by_cases hr : 20 < Rs.length
    · have hd2 : decide (20 < (Rs.length : Int)) = true := decide_eq_true (by omega)
      clear CY hMl
      generalize L.length = n at *
      generalize Rs.length = r at *
      go_enter Tryd.func6, Tryd.ntmps6
      go_upto_region 1 with fail
      change Code.wp _ _ _ _ (w.alloc (.cells (w8s K) 25))
      generalize w.alloc (.cells (w8s K) 25) = W at *
      go_wp2_with (go_at_call 7; refine CK1.mono ?_; rintro e w1 ⟨rfl, hb1⟩)
      go_ret
      exact ⟨rfl, hb0.trans (hb1.mono hb0.size)⟩
    · have hd2 : decide (20 < (Rs.length : Int)) = false := decide_eq_false (by omega)
      have CY2 := CY (by omega)
      have hn20 : L.length ≤ 20 := by omega
      have hr20 : Rs.length ≤ 20 := by omega
      clear CY CK1
      generalize keysL L = Ms at *
      generalize hn : L.length = n at *
      generalize hrr : Rs.length = r at *
      have HN : Hid (Ms.length = n) := Lib.hid hMl
      have HRR := Lib.hid hrr
      clear hMl hn hrr hl hr
      go_enter Tryd.func6, Tryd.ntmps6
      go_upto_region 1 with fail
      change Code.wp _ _ _ _ (w.alloc (.cells (w8s K) 25))
      generalize w.alloc (.cells (w8s K) 25) = W at *
      have HB0 := Lib.hid hb0
      have HA0 := Lib.hid hA0
      have HS0 := Lib.hid hs0
      clear hb0 hA0 hs0
      go_upto_region 4 with (go_at_call 16; refine CY2.mono ?_; rintro e w1 ⟨v1, rfl, hO1, hb1⟩)
      obtain ⟨am, cm, rfl, hRm, hcm⟩ := hO1.rk
      rw [HN.out] at hcm
      have hA1 := HA0.out.below HA0.out.lt hb1
      have hbw1 := HB0.out.trans (hb1.mono HB0.out.size)
      have hO2 : OwnK (w1.alloc (.cells (w8s K) 25)) W.heap.size (.slice am Ms.length cm) Ms := hO1.below ((Below.refl _ w1).alloc (Nat.le_refl _) _)
      obtain ⟨v2, w2, hap, hO3, hRm2, hb2⟩ := append_key hO2 K HK.out w1.heap.size (heap_alloc_last w1 _) (by have := hb1.size; simp; omega) (by rw [HN.out]; omega)
      have hbw2 : Below w.heap.size w w2 := (hbw1.alloc hbw1.size (.cells (w8s K) 25)).trans (hb2.mono HB0.out.size)
      obtain ⟨av, cv, rfl, hRv, -⟩ := hO3.rk
      have hbs := build_one K HK.out w1
      rw [HN.out] at hap ⊢
      have hKL : KL w am Ms ar Rs av (Ms ++ [K]) w2 := ⟨hRm2, HR.out.below hbw2, hRv, HG.out.below hg2 hbw2, hbw2⟩
      have hNl : (Ms ++ [K]).length = n + 1 := by rw [List.length_append, HN.out]; rfl
      rw [hNl] at hap
      apply wp_region_lit
      refine gw_val (by kernel_rfl) (some 21) rfl (.slice am n cm) (by kernel_rfl) ?_
      refine gw_load (by kernel_rfl) (some 22) rfl 25 (.tmp 4) rfl ⟨w.heap.size, 0, none⟩ (.agg (w8s K)) (by kernel_rfl) (load_key hA1 HK.out) ?_
      simp only [Act.put, List.setIfInBounds_toArray, List.set_cons_succ, List.set_cons_zero]
      refine gw_build (by kernel_rfl) (some 23) rfl 36 1 #[(0, .tmp 22)] rfl #[(0, .agg (w8s K))] (by kernel_rfl) (.slice (some ⟨w1.heap.size, 0, none⟩) 1 1) (w1.alloc (.cells (w8s K) 25)) hbs ?_
      simp only [Act.put, List.setIfInBounds_toArray, List.set_cons_succ, List.set_cons_zero]
      refine append_step rfl (some 24) rfl 36 rfl (.tmp 21) (.tmp 23) 36 rfl (.slice am n cm) (.slice (some ⟨w1.heap.size, 0, none⟩) 1 1) (.slice av (n + 1) cv) w2 (by kernel_rfl) (by kernel_rfl) hap ?_
      simp only [Act.put, List.setIfInBounds_toArray, List.set_cons_succ, List.set_cons_zero]
      have HKL := Lib.hid hKL
      have HNL := Lib.hid hNl
      have HOA := Lib.hid hO3.2
      clear hKL hNl hRm2 hRv hO3 hb2 hbw2 hap hbs hO2 hA1 hbw1 hRm hO1 hb1 CY2 HB0 HA0 HS0
      generalize Ms ++ [K] = Ns at *
      go_wp2_with fail
      have hgw : 0 + 2 + 1 ≤ w.heap.size := hg2
      go_loopg [26] (n + 1) (fun g s26 wx => ∃ i : Nat, i ≤ n + 1 ∧ s26 = .int .i64 i ∧ KL w am Ms ar Rs av Ns wx ∧ n + 1 - i = g)
      case atStart => exact ⟨0, by omega, by go_num, HKL.out, rfl⟩
      case round =>
        clear HKL
        obtain ⟨i, hi, rfl, hKw, hgk⟩ := hrel
        by_cases hlt : i < n + 1
        · obtain ⟨b, off, rfl, hb, hrg, hx⟩ := hKw.2.2.1 i (by rw [HNL.out]; exact hlt)
          generalize Ns.getD i [] = x at *
          have hsx : (w8s x).size = 32 := by rw [size_w8s, hx]
          have HX := Lib.hid hx
          have hlt2 : (i : Int) < (n : Int) + 1 := by omega
          have hd5 : decide ((i : Int) < (n : Int) + 1) = true := decide_eq_true hlt2
          go_upto_region 6 with fail
          apply wp_region_lit
          refine wpList_plain rfl (fun KK hKK => ?_)
          go_simp
          apply hKK
          clear hKK KK
          apply wpList_load_mid (ty := 25) (x := .tmp 28) (b := b) (o := off + i * 32) (cs := x.map (Value.int .u8)) (d := .array 32 5)
          case hgd => rfl
          case ho => rfl
          case hx => kernel_rfl
          case hc => exact hrg
          case hu => kernel_rfl
          case hd => rfl
          case hi => rw [List.length_map, hx]; kernel_rfl
          refine run_to rfl (some 9) rfl (.pointer (some ⟨wr.heap.size, 0, none⟩)) (wr.alloc (.cells (w8s (List.replicate 32 0)) 25)) (by kernel_rfl) ?_
          apply wpList_store_new (w := wr) (ty := 25) (x := .tmp 9) (y := .tmp 29) (c := w8s (List.replicate 32 0)) (c' := w8s x)
          case hgd => rfl
          case ho => rfl
          case hx => kernel_rfl
          case hy => kernel_rfl
          case hi => rw [hsx]; kernel_rfl
          case hz => rw [hsx]; rfl
          case h1 => exact one_w8s _
          apply wpList_nil
          have hXA : Ab (wr.alloc (.cells (w8s x) 25)) wr.heap.size 25 x := heap_alloc_last _ _
          have hKV := hKw.below hgw ((Below.refl _ wr).alloc (Nat.le_refl _) (.cells (w8s x) 25))
          generalize wr.alloc (.cells (w8s x) 25) = V at *
          generalize wr.heap.size = gx at *
          clear hKw hrg hx hb
          simp only [Act.put, List.setIfInBounds_toArray, List.set_cons_succ, List.set_cons_zero]
          go_upto_region 7 with fail
          have keepC : ∀ w' w'' : World, (Ab w' gx 25 x ∧ KL w am Ms ar Rs (some ⟨b, off, none⟩) Ns w') → Below w'.heap.size w' w'' → (Ab w'' gx 25 x ∧ KL w am Ms ar Rs (some ⟨b, off, none⟩) Ns w'') := fun w' w'' h hb => ⟨h.1.below h.1.lt hb, h.2.below hgw hb⟩
          have CH1 := fun (w' : World) (h : Ab w' gx 25 x ∧ KL w am Ms ar Rs (some ⟨b, off, none⟩) Ns w') => (has_any am cm Ms x w' HX.out h.2.1 (by rw [HN.out]; omega)).mono fun e w'' (q : e = .returned (.bool (hasL x Ms)) ∧ Below w'.heap.size w' w'') => (⟨q.1, keepC w' w'' h q.2⟩ : e = .returned (.bool (hasL x Ms)) ∧ (Ab w'' gx 25 x ∧ KL w am Ms ar Rs (some ⟨b, off, none⟩) Ns w''))
          have CG1 := fun (w' : World) (h : Ab w' gx 25 x ∧ KL w am Ms ar Rs (some ⟨b, off, none⟩) Ns w') => (refhas_any am cm Ms x w' HX.out h.2.1 (by rw [HN.out]; omega)).mono fun e w'' (q : e = .returned (.bool (hasL x Ms)) ∧ Below w'.heap.size w' w'') => (⟨q.1, keepC w' w'' h q.2⟩ : e = .returned (.bool (hasL x Ms)) ∧ (Ab w'' gx 25 x ∧ KL w am Ms ar Rs (some ⟨b, off, none⟩) Ns w''))
          have CH2 := fun (w' : World) (h : Ab w' gx 25 x ∧ KL w am Ms ar Rs (some ⟨b, off, none⟩) Ns w') => (has_any ar cr Rs x w' HX.out h.2.2.1 (by rw [HRR.out]; omega)).mono fun e w'' (q : e = .returned (.bool (hasL x Rs)) ∧ Below w'.heap.size w' w'') => (⟨q.1, keepC w' w'' h q.2⟩ : e = .returned (.bool (hasL x Rs)) ∧ (Ab w'' gx 25 x ∧ KL w am Ms ar Rs (some ⟨b, off, none⟩) Ns w''))
          have CG2 := fun (w' : World) (h : Ab w' gx 25 x ∧ KL w am Ms ar Rs (some ⟨b, off, none⟩) Ns w') => (refhas_any ar cr Rs x w' HX.out h.2.2.1 (by rw [HRR.out]; omega)).mono fun e w'' (q : e = .returned (.bool (hasL x Rs)) ∧ Below w'.heap.size w' w'') => (⟨q.1, keepC w' w'' h q.2⟩ : e = .returned (.bool (hasL x Rs)) ∧ (Ab w'' gx 25 x ∧ KL w am Ms ar Rs (some ⟨b, off, none⟩) Ns w''))
          rw [HN.out] at CH1 CG1
          rw [HRR.out] at CH2 CG2
          generalize hasL x Ms = h1 at *
          generalize hasL x Rs = h2 at *
          refine wp_region_class (C := fun w' => Ab w' gx 25 x ∧ KL w am Ms ar Rs (some ⟨b, off, none⟩) Ns w') (by kernel_rfl) (by kernel_rfl) (keepC V V.drew ⟨hXA, hKV⟩ (Below.refl _ V).drew) ?_
          refine gq_val (by kernel_rfl) (some 30) rfl (.slice am n cm) (fun w' _ => by kernel_rfl) ?_
          simp only [Act.put, List.setIfInBounds_toArray, List.set_cons_succ, List.set_cons_zero]
          refine gq_load (by kernel_rfl) (some 31) rfl 25 (.tmp 9) rfl ⟨gx, 0, none⟩ (.agg (w8s x)) (by kernel_rfl) (fun w' hC => load_key hC.1 HX.out) ?_
          simp only [Act.put, List.setIfInBounds_toArray, List.set_cons_succ, List.set_cons_zero]
          refine gq_call (by kernel_rfl) (some 32) rfl 17 #[.slice am n cm, .agg (w8s x)] (.bool h1) (fun w' _ => by kernel_rfl) (fun w' hC => CH1 w' hC) ?_
          simp only [Act.put, List.setIfInBounds_toArray, List.set_cons_succ, List.set_cons_zero]
          refine gq_val (by kernel_rfl) (some 33) rfl (.slice am n cm) (fun w' _ => by kernel_rfl) ?_
          simp only [Act.put, List.setIfInBounds_toArray, List.set_cons_succ, List.set_cons_zero]
          refine gq_load (by kernel_rfl) (some 34) rfl 25 (.tmp 9) rfl ⟨gx, 0, none⟩ (.agg (w8s x)) (by kernel_rfl) (fun w' hC => load_key hC.1 HX.out) ?_
          simp only [Act.put, List.setIfInBounds_toArray, List.set_cons_succ, List.set_cons_zero]
          refine gq_call (by kernel_rfl) (some 35) rfl 18 #[.slice am n cm, .agg (w8s x)] (.bool h1) (fun w' _ => by kernel_rfl) (fun w' hC => CG1 w' hC) ?_
          simp only [Act.put, List.setIfInBounds_toArray, List.set_cons_succ, List.set_cons_zero]
          refine gq_val (by kernel_rfl) (some 36) rfl (.bool false) (fun w' _ => by cases h1 <;> kernel_rfl) ?_
          simp only [Act.put, List.setIfInBounds_toArray, List.set_cons_succ, List.set_cons_zero]
          refine gq_val (by kernel_rfl) (some 37) rfl (.bool false) (fun w' _ => by kernel_rfl) ?_
          simp only [Act.put, List.setIfInBounds_toArray, List.set_cons_succ, List.set_cons_zero]
          refine gq_val (by kernel_rfl) (some 38) rfl (.slice ar r cr) (fun w' _ => by kernel_rfl) ?_
          simp only [Act.put, List.setIfInBounds_toArray, List.set_cons_succ, List.set_cons_zero]
          refine gq_load (by kernel_rfl) (some 39) rfl 25 (.tmp 9) rfl ⟨gx, 0, none⟩ (.agg (w8s x)) (by kernel_rfl) (fun w' hC => load_key hC.1 HX.out) ?_
          simp only [Act.put, List.setIfInBounds_toArray, List.set_cons_succ, List.set_cons_zero]
          refine gq_call (by kernel_rfl) (some 40) rfl 17 #[.slice ar r cr, .agg (w8s x)] (.bool h2) (fun w' _ => by kernel_rfl) (fun w' hC => CH2 w' hC) ?_
          simp only [Act.put, List.setIfInBounds_toArray, List.set_cons_succ, List.set_cons_zero]
          refine gq_val (by kernel_rfl) (some 41) rfl (.slice ar r cr) (fun w' _ => by kernel_rfl) ?_
          simp only [Act.put, List.setIfInBounds_toArray, List.set_cons_succ, List.set_cons_zero]
          refine gq_load (by kernel_rfl) (some 42) rfl 25 (.tmp 9) rfl ⟨gx, 0, none⟩ (.agg (w8s x)) (by kernel_rfl) (fun w' hC => load_key hC.1 HX.out) ?_
          simp only [Act.put, List.setIfInBounds_toArray, List.set_cons_succ, List.set_cons_zero]
          refine gq_call (by kernel_rfl) (some 43) rfl 18 #[.slice ar r cr, .agg (w8s x)] (.bool h2) (fun w' _ => by kernel_rfl) (fun w' hC => CG2 w' hC) ?_
          simp only [Act.put, List.setIfInBounds_toArray, List.set_cons_succ, List.set_cons_zero]
          refine gq_val (by kernel_rfl) (some 44) rfl (.bool false) (fun w' _ => by cases h2 <;> kernel_rfl) ?_
          simp only [Act.put, List.setIfInBounds_toArray, List.set_cons_succ, List.set_cons_zero]
          refine gq_val (by kernel_rfl) (some 45) rfl (.bool false) (fun w' _ => by kernel_rfl) ?_
          simp only [Act.put, List.setIfInBounds_toArray, List.set_cons_succ, List.set_cons_zero]
          refine wpQuiet_nil ?_
          intro w' hC
          have HKV := Lib.hid hC.2
          clear hC hXA hKV CH1 CG1 CH2 CG2 keepC
          go_wp2_with fail
          go_roundg (n + 1 - (i + 1))
          case measure => omega
          case rel => exact ⟨i + 1, by omega, by go_num, HKV.out, rfl⟩
        · have hd5 : decide ((i : Int) < (n : Int) + 1) = false := decide_eq_false (by omega)
          have hlt2 : ¬ (i : Int) < (n : Int) + 1 := by omega
          have keepC : ∀ w' w'' : World, KL w am Ms ar Rs av Ns w' → Below w'.heap.size w' w'' → KL w am Ms ar Rs av Ns w'' := fun w' w'' h hb => h.below hgw hb
          have CD1 := fun (w' : World) (h : KL w am Ms ar Rs av Ns w') => (dist_any am cm Ms w' h.1 (by rw [HN.out]; omega)).mono fun e w'' (q : e = .returned (.bool (distL Ms Ms.length)) ∧ Below w'.heap.size w' w'') => (⟨q.1, keepC w' w'' h q.2⟩ : e = .returned (.bool (distL Ms Ms.length)) ∧ KL w am Ms ar Rs av Ns w'')
          have CE1 := fun (w' : World) (h : KL w am Ms ar Rs av Ns w') => (refdist_any am cm Ms w' (by rw [HN.out]; exact hcm) h.1 (by rw [HN.out]; omega)).mono fun e w'' (q : e = .returned (.bool (distL Ms Ms.length)) ∧ Below w'.heap.size w' w'') => (⟨q.1, keepC w' w'' h q.2⟩ : e = .returned (.bool (distL Ms Ms.length)) ∧ KL w am Ms ar Rs av Ns w'')
          have CD2 := fun (w' : World) (h : KL w am Ms ar Rs av Ns w') => (dist_any ar cr Rs w' h.2.1 (by rw [HRR.out]; omega)).mono fun e w'' (q : e = .returned (.bool (distL Rs Rs.length)) ∧ Below w'.heap.size w' w'') => (⟨q.1, keepC w' w'' h q.2⟩ : e = .returned (.bool (distL Rs Rs.length)) ∧ KL w am Ms ar Rs av Ns w'')
          have CE2 := fun (w' : World) (h : KL w am Ms ar Rs av Ns w') => (refdist_any ar cr Rs w' (by rw [HRR.out]; exact hcr) h.2.1 (by rw [HRR.out]; omega)).mono fun e w'' (q : e = .returned (.bool (distL Rs Rs.length)) ∧ Below w'.heap.size w' w'') => (⟨q.1, keepC w' w'' h q.2⟩ : e = .returned (.bool (distL Rs Rs.length)) ∧ KL w am Ms ar Rs av Ns w'')
          have CK := fun (w' : World) (h : KL w am Ms ar Rs av Ns w') => (known_true w' h.2.2.2.1).mono fun e w'' (q : e = .returned (.bool true) ∧ Below w'.heap.size w' w'') => (⟨q.1, keepC w' w'' h q.2⟩ : e = .returned (.bool true) ∧ KL w am Ms ar Rs av Ns w'')
          generalize distL Ms Ms.length = d1 at *
          generalize distL Rs Rs.length = d2 at *
          rw [HN.out] at CD1 CE1
          rw [HRR.out] at CD2 CE2
          have hK := hKw
          clear hKw
          go_upto_region 10 with fail
          apply wp_region_lit
          refine gw_val (by kernel_rfl) (some 47) rfl (.slice am n cm) (by kernel_rfl) ?_
          simp only [Act.put, List.setIfInBounds_toArray, List.set_cons_succ, List.set_cons_zero]
          refine gw_call (by kernel_rfl) (some 48) rfl 19 #[.slice am n cm] (.bool d1) (KL w am Ms ar Rs av Ns) (by kernel_rfl) (CD1 _ hK) (fun V48 hK' => ?_)
          clear hK
          have hK := hK'
          clear hK'
          simp only [Act.put, List.setIfInBounds_toArray, List.set_cons_succ, List.set_cons_zero]
          refine gw_val (by kernel_rfl) (some 49) rfl (.slice am n cm) (by kernel_rfl) ?_
          simp only [Act.put, List.setIfInBounds_toArray, List.set_cons_succ, List.set_cons_zero]
          refine gw_call (by kernel_rfl) (some 50) rfl 20 #[.slice am n cm] (.bool d1) (KL w am Ms ar Rs av Ns) (by kernel_rfl) (CE1 _ hK) (fun V50 hK' => ?_)
          clear hK
          have hK := hK'
          clear hK'
          simp only [Act.put, List.setIfInBounds_toArray, List.set_cons_succ, List.set_cons_zero]
          refine gw_val (by kernel_rfl) (some 51) rfl (.bool true) (by cases d1 <;> kernel_rfl) ?_
          simp only [Act.put, List.setIfInBounds_toArray, List.set_cons_succ, List.set_cons_zero]
          refine gw_val (by kernel_rfl) (some 52) rfl (.bool true) (by kernel_rfl) ?_
          simp only [Act.put, List.setIfInBounds_toArray, List.set_cons_succ, List.set_cons_zero]
          refine gw_val (by kernel_rfl) (some 53) rfl (.slice ar r cr) (by kernel_rfl) ?_
          simp only [Act.put, List.setIfInBounds_toArray, List.set_cons_succ, List.set_cons_zero]
          refine gw_call (by kernel_rfl) (some 54) rfl 19 #[.slice ar r cr] (.bool d2) (KL w am Ms ar Rs av Ns) (by kernel_rfl) (CD2 _ hK) (fun V54 hK' => ?_)
          clear hK
          have hK := hK'
          clear hK'
          simp only [Act.put, List.setIfInBounds_toArray, List.set_cons_succ, List.set_cons_zero]
          refine gw_val (by kernel_rfl) (some 55) rfl (.slice ar r cr) (by kernel_rfl) ?_
          simp only [Act.put, List.setIfInBounds_toArray, List.set_cons_succ, List.set_cons_zero]
          refine gw_call (by kernel_rfl) (some 56) rfl 20 #[.slice ar r cr] (.bool d2) (KL w am Ms ar Rs av Ns) (by kernel_rfl) (CE2 _ hK) (fun V56 hK' => ?_)
          clear hK
          have hK := hK'
          clear hK'
          simp only [Act.put, List.setIfInBounds_toArray, List.set_cons_succ, List.set_cons_zero]
          refine gw_val (by kernel_rfl) (some 57) rfl (.bool true) (by cases d2 <;> kernel_rfl) ?_
          simp only [Act.put, List.setIfInBounds_toArray, List.set_cons_succ, List.set_cons_zero]
          refine gw_val (by kernel_rfl) (some 58) rfl (.bool true) (by kernel_rfl) ?_
          simp only [Act.put, List.setIfInBounds_toArray, List.set_cons_succ, List.set_cons_zero]
          refine gw_val (by kernel_rfl) (some 59) rfl (.bool true) (by kernel_rfl) ?_
          simp only [Act.put, List.setIfInBounds_toArray, List.set_cons_succ, List.set_cons_zero]
          refine gw_call (by kernel_rfl) (some 60) rfl 7 #[] (.bool true) (KL w am Ms ar Rs av Ns) (by kernel_rfl) (CK _ hK) (fun V60 hK' => ?_)
          clear hK
          have hK := hK'
          clear hK'
          simp only [Act.put, List.setIfInBounds_toArray, List.set_cons_succ, List.set_cons_zero]
          refine gw_val (by kernel_rfl) (some 61) rfl (.bool true) (by kernel_rfl) ?_
          simp only [Act.put, List.setIfInBounds_toArray, List.set_cons_succ, List.set_cons_zero]
          refine gw_val (by kernel_rfl) (some 6) rfl (.bool true) (by kernel_rfl) ?_
          simp only [Act.put, List.setIfInBounds_toArray, List.set_cons_succ, List.set_cons_zero]
          apply wpList_nil
          have HW := Lib.hid hK.2.2.2.2
          clear hK CD1 CE1 CD2 CE2 CK keepC
          go_wp2_with fail
          go_ret
          exact ⟨rfl, HW.out⟩
end Go.Proofs.YtapojahoaglgaaaDoor
