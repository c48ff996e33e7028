/-
  The program's cache: all keys.
-/
import Derived.Test.YtjblfpifhbmfoaaQP
namespace Go.Proofs.Ytjblfpifhbmfoaa
open Go.RowKit
set_option linter.unusedSimpArgs false
set_option linter.unusedVariables false

theorem make_key (w : World) (c : Nat) (hc : c ≤ 100000) : ∃ w1, (Instr.makeSlice 30 (.int .i64 0) (.int .i64 (c : Int))).run Try.prog w = .ok (.slice (some ⟨w.heap.size, 0, none⟩) 0 c) w1 ∧ w1.ownsRow w.heap.size 34 32 (.slice (some ⟨w.heap.size, 0, none⟩) 0 c) 0 (kcells []) ∧ Below w.heap.size w w1 := by
  obtain ⟨i0, hi, hz0, hz1, hz2⟩ := info_parts infoK
  obtain ⟨w1, hr, hO, hg⟩ := run_make_own (P := Try.prog) w w.heap.size 30 34 i0 _ 32 (by kernel_rfl) hi hz0 hz1 .i64 .i64 c (by rw [hz2]; omega) (by unfold maxLen; omega) (Nat.le_refl _)
  exact ⟨w1, hr, hO, hg.os, hg.tape, hg.output, hg.size, fun k hk => hg.block k hk (by simp)⟩
/-- What Keys returns. -/
def Kys (Ks : List (List Int)) (w : World) (e : Ending) (w' : World) : Prop := ∃ a c, e = .returned (.slice a Ks.length c) ∧ Cs w' a (kcells Ks) ∧ Ks.length ≤ c ∧ Below w.heap.size w w'
theorem cs_grown {w w' : World} {b off : Nat} {cs : List Value} {row : Option Nat} (h : Cs w (some ⟨b, off, none⟩) cs) (hg : w.grownBy w' row) (hb : b < w.heap.size) (hn : row ≠ some b) : Cs w' (some ⟨b, off, none⟩) cs := fun j v hj => by
  obtain ⟨b2, off2, e, hlt, hc⟩ := h j v hj
  simp only [Option.some.injEq, Addr.mk.injEq, and_true] at e
  obtain ⟨rfl, rfl⟩ := e
  obtain ⟨g1, g2, g3, g4, g5⟩ := hg
  refine ⟨b, off, rfl, by omega, ?_⟩
  rw [← hc]
  unfold World.cell?
  rw [g5 b hb (fun e => hn e.symm)]
set_option maxRecDepth 100000 in
set_option maxHeartbeats 4000000 in
theorem q_keys {w : World} {g z : Nat} {d : Cd} {Ks : List (List Int)} {L : List (List Int × Int)} {m : LM} {Sl : Nat → Prop} (h : Mem w g z d L m Sl) (hi : Inv z d Ks L m) (hc : Wc z Ks) : Calls Try.prog 19 #[.pointer (some ⟨g, 0, none⟩)] w fun e w' => Kys Ks w e w' := by
  have hml := hi.mlen
  have hle := hc.le
  have hzm := hc.zm
  have hN : Ks.length ≤ 100000 := by omega
  have hvl : (valuesM m).length = Ks.length := by rw [hi.len]; unfold valuesM; rw [List.length_map]
  obtain ⟨w1, hmk, hO1, hb1⟩ := make_key w Ks.length hN
  have CL := q_len h
  rw [hml] at CL
  have HL2 := Lib.hid (h.below hb1).ld2
  have CV := list_valuesN w1 d.gl Sl m (h.below hb1).ls hi.ct.wm hi.ok
  rw [← hi.len] at CV
  have HEL := Lib.hid (fun i (hil : i < Ks.length) => (by
    have hie : i < m.E.length := by rw [← hi.len]; exact hil
    obtain ⟨k, hk, hkl⟩ := hi.at hie
    obtain ⟨b, hb⟩ := h.addr hkl
    refine ⟨k, b, (valuesM_at m hie).trans hk, hkl, fun U hU => ⟨?_, ?_⟩, hc.kc.at hil⟩
    · have := (h.below hU).ld3
      rw [hb] at this
      exact this
    · have h1 := hi.ct.key hie
      unfold kfA at h1
      rw [hk, Int.toNat_natCast] at h1
      rw [h1]
      exact (h.below hU).key hi.ka hb hkl : ∃ k b : Nat, (valuesM m).getD i 0 = (k : Int) ∧ k < d.A.length ∧ (∀ U, Below w.heap.size w U → (Instr.loadAt 30 (.pointer (some ⟨g, 3, none⟩))).run Try.prog U = .ok (.slice (some ⟨b, 0, none⟩) d.A.length d.kc) U ∧
      (Instr.loadAt 34 (.pointer (some ⟨b, k * 32, none⟩))).run Try.prog U = .ok (.agg (w8s (Ks.getD i []))) U) ∧ (Ks.getD i []).length = 32))
  have HNN := Lib.hid hN
  have HVL := Lib.hid hvl
  have hv0 : ∀ i, i < Ks.length → Ks.take i ++ [Ks.getD i []] = Ks.take (i + 1) := fun i hi => by
    rw [getD_lt Ks i [] hi, List.take_add_one, List.getElem?_eq_getElem hi]
    rfl
  have HTK := Lib.hid hv0
  have HKC := Lib.hid hc.kc
  generalize valuesM m = vs at *
  clear h hi hc hml hle hzm hN hvl hv0
  go_enter Try.func19, Try.ntmps19
  go_upto_region 1 with fail
  apply wp_region_lit
  refine gw_val (by kernel_rfl) (some 6) rfl (.pointer (some ⟨g, 0, none⟩)) (by kernel_rfl) ?_
  simp only [Act.put, List.setIfInBounds_toArray, List.set_cons_succ, List.set_cons_zero]
  refine gw_val (by kernel_rfl) (some 7) rfl (.bool false) (by kernel_rfl) ?_
  simp only [Act.put, List.setIfInBounds_toArray, List.set_cons_succ, List.set_cons_zero]
  apply wpList_nil
  go_upto_region 3 with fail
  apply wp_region_lit
  refine gw_val (by kernel_rfl) (some 8) rfl (.pointer (some ⟨g, 0, none⟩)) (by kernel_rfl) ?_
  simp only [Act.put, List.setIfInBounds_toArray, List.set_cons_succ, List.set_cons_zero]
  refine gw_call (by kernel_rfl) (some 9) rfl 20 #[.pointer (some ⟨g, 0, none⟩)] (.int .i64 Ks.length) (fun w9 => w9 = w) (by kernel_rfl) CL (fun w9 hw9 => ?_)
  subst hw9
  simp only [Act.put, List.setIfInBounds_toArray, List.set_cons_succ, List.set_cons_zero]
  refine gw_make (by kernel_rfl) (some 10) rfl 30 (.const (.int .i64 0)) (.tmp 9) rfl (.int .i64 0) (.int .i64 Ks.length) (.slice (some ⟨w9.heap.size, 0, none⟩) 0 Ks.length) (by kernel_rfl) (by kernel_rfl) w1 hmk ?_
  simp only [Act.put, List.setIfInBounds_toArray, List.set_cons_succ, List.set_cons_zero]
  refine gw_val (by kernel_rfl) (some 3) rfl (.slice (some ⟨w9.heap.size, 0, none⟩) 0 Ks.length) (by kernel_rfl) ?_
  simp only [Act.put, List.setIfInBounds_toArray, List.set_cons_succ, List.set_cons_zero]
  apply wpList_nil
  go_upto_region 4 with fail
  apply wp_region_lit
  refine gw_val (by kernel_rfl) (some 11) rfl (.pointer (some ⟨g, 0, none⟩)) (by kernel_rfl) ?_
  simp only [Act.put, List.setIfInBounds_toArray, List.set_cons_succ, List.set_cons_zero]
  refine gw_val (by kernel_rfl) (some 12) rfl (.pointer (some ⟨g, 0, none⟩)) (by kernel_rfl) ?_
  simp only [Act.put, List.setIfInBounds_toArray, List.set_cons_succ, List.set_cons_zero]
  refine gw_val (by kernel_rfl) (some 13) rfl (.pointer (some ⟨g, 2, none⟩)) (by kernel_rfl) ?_
  simp only [Act.put, List.setIfInBounds_toArray, List.set_cons_succ, List.set_cons_zero]
  refine gw_load (by kernel_rfl) (some 14) rfl 52 (.tmp 13) rfl ⟨g, 2, none⟩ (.pointer (some ⟨d.gl, 0, none⟩)) (by kernel_rfl) HL2.out ?_
  simp only [Act.put, List.setIfInBounds_toArray, List.set_cons_succ, List.set_cons_zero]
  refine gw_callE (by kernel_rfl) (some 15) rfl 33 #[.pointer (some ⟨d.gl, 0, none⟩)] (fun v w' => ∃ a c, v = .slice a Ks.length c ∧ Cs w' a (icells vs) ∧ Ks.length ≤ c ∧ Below w1.heap.size w1 w' ∧ ∀ x, a = some x → w1.heap.size ≤ x.block) (by kernel_rfl) (CV.mono (fun e w2 q => by obtain ⟨a, c, e1, e2, e3, e4, e5⟩ := q; exact ⟨_, e1, a, c, rfl, e2, e3, e4, e5⟩)) (fun v9 w2 q => ?_)
  obtain ⟨a, c, rfl, hCs, -, hb2, hNB⟩ := q
  simp only [Act.put, List.setIfInBounds_toArray, List.set_cons_succ, List.set_cons_zero]
  refine gw_val (by kernel_rfl) (some 16) rfl (.int .i64 Ks.length) (by kernel_rfl) ?_
  simp only [Act.put, List.setIfInBounds_toArray, List.set_cons_succ, List.set_cons_zero]
  refine gw_val (by kernel_rfl) (some 17) rfl (.int .i64 0) (by kernel_rfl) ?_
  simp only [Act.put, List.setIfInBounds_toArray, List.set_cons_succ, List.set_cons_zero]
  apply wpList_nil
  have HCS := Lib.hid hCs
  have HNB : Hid (∀ y, a = some y → (.slice (some ⟨w9.heap.size, 0, none⟩) 0 Ks.length : Value).ownBlock ≠ some y.block) := Lib.hid (fun y hy e => by have h1 := hNB y hy; have h2 := hO1.lt y.block e; omega)
  have HO2 := Lib.hid (own_below hO1 hb2)
  have HB2 := Lib.hid (hb1.trans (hb2.mono hb1.size))
  generalize (.slice (some ⟨w9.heap.size, 0, none⟩) 0 Ks.length : Value) = s0 at *
  clear hCs hmk CL CV HL2 hO1 hb1 hb2 hNB
  go_wp2_with fail
  go_loopg [3, 17] Ks.length (fun n s3 s17 wx => ∃ i : Nat, s17 = .int .i64 (i : Int) ∧ i ≤ Ks.length ∧ wx.ownsRow w9.heap.size 34 32 s3 i (kcells (Ks.take i)) ∧ Below w9.heap.size w9 wx ∧ Cs wx a (icells vs) ∧ (∀ y, a = some y → s3.ownBlock ≠ some y.block) ∧ n = Ks.length - i)
  case atStart => exact ⟨0, rfl, Nat.zero_le _, HO2.out, HB2.out, HCS.out, HNB.out, rfl⟩
  case round =>
    obtain ⟨i, rfl, hil, hO, hB, hC, hNB, hg⟩ := hrel
    obtain ⟨a9, c9, rfl, -, -⟩ := own_cs hO
    rcases Nat.lt_or_ge i Ks.length with hlt | hge
    · skip
      obtain ⟨k, bk, hvk, hkl, hU, h32⟩ := HEL.out i hlt
      obtain ⟨b, off, rfl, hbl, hcell⟩ := int_at hC (k := i) (by rw [HVL.out]; exact hlt)
      rw [hvk] at hcell
      have hV : w9.heap.size ≤ wr.heap.size := hB.size
      have hb3 : Below wr.heap.size wr (wr.alloc (.cells (w8s (Ks.getD i [])) 34)) := (Below.refl _ wr).alloc (Nat.le_refl _) _
      have hC3 := bx_one (Ks.getD i []) wr
      have hN := HNN.out
      have e1 : kcells (Ks.take i) ++ (Ks.getD i []).map (Value.int .u8) = kcells (Ks.take (i + 1)) := by rw [← HTK.out i hlt, kcells_snoc]
      obtain ⟨v4, V4, hap, hO4, hg4, ha4⟩ := app_one (P := Try.prog) (t := 30) (by kernel_rfl) infoK (by kernel_rfl) (by omega) (by omega) (own_below hO hb3) wr.heap.size ((Ks.getD i []).map (Value.int .u8)) (by rw [show kcells [Ks.getD i []] = (Ks.getD i []).map (Value.int .u8) by simp [kcells]] at hC3; exact hC3) (by rw [List.length_map, h32]) (fun u hu => by obtain ⟨n, -, rfl⟩ := List.mem_map.1 hu; rfl) (Nat.le_trans hV hb3.size) (by omega)
      rw [e1] at hO4
      have hb4 : Below w9.heap.size (wr.alloc (.cells (w8s (Ks.getD i [])) 34)) V4 := (Below.refl _ _).grown hg4 (Nat.le_trans hV hb3.size) (fun j hj => (hO.lt j hj).1)
      have HE4 := Lib.hid hO4
      have hBV : Below w9.heap.size w9 V4 := (hB.trans (hb3.mono hV)).trans hb4
      have HBV := Lib.hid hBV
      have hbs : b < (wr.alloc (.cells (w8s (Ks.getD i [])) 34)).heap.size := Nat.lt_of_lt_of_le hbl hb3.size
      have HC4 : Hid (Cs V4 (some ⟨b, off, none⟩) (icells vs)) := Lib.hid (cs_grown (hC.below hb3) hg4 hbs (fun e => hNB ⟨b, off, none⟩ rfl e))
      have HN4 : Hid (∀ y, (some ⟨b, off, none⟩ : Option Addr) = some y → v4.ownBlock ≠ some y.block) := Lib.hid (fun y hy e => by
        obtain rfl : (⟨b, off, none⟩ : Addr) = y := by simpa using hy
        rcases ha4 with e2 | e2
        · exact hNB _ rfl (e2.symm.trans e)
        · rw [e2, Option.some.injEq] at e
          simp only at e
          omega)
      have ht : decide (i < Ks.length) = true := decide_eq_true hlt
      have hld3 := (hU wr hB).1
      have hldk := (hU wr hB).2
      have HG : Hid (Ks.length - (i + 1) = gk - 1 ∧ 0 < gk ∧ i + 1 ≤ Ks.length) := Lib.hid (by omega)
      have HB0 := Lib.hid (build_k h32 wr)
      clear hO hB hC hg hil hU hb3 hC3 hO4 hb4 hBV hvk hbl hbs hg4 ha4 hNB e1
      go_upto_region 5 with fail
      apply wp_region_lit
      refine gw_val (by kernel_rfl) (some 18) rfl (.bool (decide (i < Ks.length))) (lt_nat rfl i Ks.length (by kernel_rfl) (by kernel_rfl) _) ?_
      simp only [Act.put, List.setIfInBounds_toArray, List.set_cons_succ, List.set_cons_zero]
      rw [ht]
      apply wpList_nil
      go_upto_region 6 with fail
      apply wp_region_lit
      refine gw_val (by kernel_rfl) (some 19) rfl (.pointer (some ⟨b, off + i, none⟩)) (idx_int b off Ks.length c i hlt _ _ _ rfl (by kernel_rfl) (by kernel_rfl)) ?_
      simp only [Act.put, List.setIfInBounds_toArray, List.set_cons_succ, List.set_cons_zero]
      refine gw_load (by kernel_rfl) (some 20) rfl 3 (.tmp 19) rfl ⟨b, off + i, none⟩ (.int .i64 (k : Int)) (by kernel_rfl) (load_cell hcell (by kernel_rfl)) ?_
      simp only [Act.put, List.setIfInBounds_toArray, List.set_cons_succ, List.set_cons_zero]
      refine gw_val (by kernel_rfl) (some 5) rfl (.int .i64 (k : Int)) (by kernel_rfl) ?_
      simp only [Act.put, List.setIfInBounds_toArray, List.set_cons_succ, List.set_cons_zero]
      apply wpList_nil
      go_upto_region 7 with fail
      apply wp_region_lit
      refine gw_val (by kernel_rfl) (some 21) rfl (.slice a9 i c9) (by kernel_rfl) ?_
      simp only [Act.put, List.setIfInBounds_toArray, List.set_cons_succ, List.set_cons_zero]
      refine gw_val (by kernel_rfl) (some 22) rfl (.pointer (some ⟨g, 0, none⟩)) (by kernel_rfl) ?_
      simp only [Act.put, List.setIfInBounds_toArray, List.set_cons_succ, List.set_cons_zero]
      refine gw_val (by kernel_rfl) (some 23) rfl (.pointer (some ⟨g, 0, none⟩)) (by kernel_rfl) ?_
      simp only [Act.put, List.setIfInBounds_toArray, List.set_cons_succ, List.set_cons_zero]
      refine gw_val (by kernel_rfl) (some 24) rfl (.pointer (some ⟨g, 3, none⟩)) (by kernel_rfl) ?_
      simp only [Act.put, List.setIfInBounds_toArray, List.set_cons_succ, List.set_cons_zero]
      refine gw_load (by kernel_rfl) (some 25) rfl 30 (.tmp 24) rfl ⟨g, 3, none⟩ (.slice (some ⟨bk, 0, none⟩) d.A.length d.kc) (by kernel_rfl) hld3 ?_
      simp only [Act.put, List.setIfInBounds_toArray, List.set_cons_succ, List.set_cons_zero]
      refine gw_val (by kernel_rfl) (some 26) rfl (.int .i64 (k : Int)) (by kernel_rfl) ?_
      simp only [Act.put, List.setIfInBounds_toArray, List.set_cons_succ, List.set_cons_zero]
      refine gw_val (by kernel_rfl) (some 27) rfl (.pointer (some ⟨bk, k * 32, none⟩)) (idx_key0 bk d.A.length d.kc k hkl _ _ _ rfl (by kernel_rfl) (by kernel_rfl)) ?_
      simp only [Act.put, List.setIfInBounds_toArray, List.set_cons_succ, List.set_cons_zero]
      refine gw_load (by kernel_rfl) (some 28) rfl 34 (.tmp 27) rfl ⟨bk, k * 32, none⟩ (.agg (w8s (Ks.getD i []))) (by kernel_rfl) hldk ?_
      simp only [Act.put, List.setIfInBounds_toArray, List.set_cons_succ, List.set_cons_zero]
      refine gw_build (by kernel_rfl) (some 29) rfl 30 1 #[(0, .tmp 28)] rfl #[(0, .agg (w8s (Ks.getD i [])))] (by kernel_rfl) (.slice (some ⟨wr.heap.size, 0, none⟩) 1 1) _ HB0.out ?_
      simp only [Act.put, List.setIfInBounds_toArray, List.set_cons_succ, List.set_cons_zero]
      refine append_step rfl (some 30) rfl 30 rfl (.tmp 21) (.tmp 29) 30 rfl (.slice a9 i c9) (.slice (some ⟨wr.heap.size, 0, none⟩) 1 1) v4 V4 (by kernel_rfl) (by kernel_rfl) hap ?_
      simp only [Act.put, List.setIfInBounds_toArray, List.set_cons_succ, List.set_cons_zero]
      refine gw_val (by kernel_rfl) (some 3) rfl (v4) (by kernel_rfl) ?_
      simp only [Act.put, List.setIfInBounds_toArray, List.set_cons_succ, List.set_cons_zero]
      apply wpList_nil
      clear hap hld3 hldk hcell HB0 h32 hkl ht
      go_upto_region 8 with fail
      apply wp_region_lit
      refine gw_val (by kernel_rfl) (some 31) rfl (.int .i64 (i + 1 : Nat)) (add_one rfl i (by have := HNN.out; have := HG.out.2.2; omega) (by kernel_rfl) _) ?_
      simp only [Act.put, List.setIfInBounds_toArray, List.set_cons_succ, List.set_cons_zero]
      refine gw_val (by kernel_rfl) (some 17) rfl (.int .i64 (i + 1 : Nat)) (by kernel_rfl) ?_
      simp only [Act.put, List.setIfInBounds_toArray, List.set_cons_succ, List.set_cons_zero]
      apply wpList_nil
      go_wp2_with fail
      go_roundg (gk - 1)
      case measure => have := HG.out; omega
      case rel => exact ⟨i + 1, rfl, HG.out.2.2, HE4.out, HBV.out, HC4.out, HN4.out, HG.out.1.symm⟩
    · skip
      have ht : decide (i < Ks.length) = false := decide_eq_false (by omega)
      obtain rfl : i = Ks.length := Nat.le_antisymm hil hge
      rw [List.take_length] at hO
      have HV : Hid (Kys Ks w9 (.returned (.slice a9 Ks.length c9)) wr) := Lib.hid (by
        obtain ⟨a, c, e, h1, h2⟩ := own_cs hO
        simp only [Value.slice.injEq, true_and] at e
        rw [e.1, e.2]
        exact ⟨a, c, rfl, h1, h2, hB⟩)
      clear hO hB hC hNB hg hil hge
      go_upto_region 5 with fail
      apply wp_region_lit
      refine gw_val (by kernel_rfl) (some 18) rfl (.bool (decide (Ks.length < Ks.length))) (lt_nat rfl Ks.length Ks.length (by kernel_rfl) (by kernel_rfl) _) ?_
      simp only [Act.put, List.setIfInBounds_toArray, List.set_cons_succ, List.set_cons_zero]
      rw [ht]
      apply wpList_nil
      go_upto_region 9 with fail
      apply wp_region_lit
      refine gw_val (by kernel_rfl) (some 32) rfl (.slice a9 Ks.length c9) (by kernel_rfl) ?_
      simp only [Act.put, List.setIfInBounds_toArray, List.set_cons_succ, List.set_cons_zero]
      refine gw_val (by kernel_rfl) (some 2) rfl (.slice a9 Ks.length c9) (by kernel_rfl) ?_
      simp only [Act.put, List.setIfInBounds_toArray, List.set_cons_succ, List.set_cons_zero]
      apply wpList_nil
      go_wp2_with fail
      go_ret
      exact HV.out
end Go.Proofs.Ytjblfpifhbmfoaa
