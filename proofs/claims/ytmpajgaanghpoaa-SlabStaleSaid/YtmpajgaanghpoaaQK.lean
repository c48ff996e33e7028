/-
 The program's Handles: contract; the nil store's methods.
-/
import Derived.Test.YtmpajgaanghpoaaQF
namespace Go.Proofs.Ytmpajgaanghpoaa
attribute [local irreducible] wpList wpQuiet
open Go.RowKit
set_option maxRecDepth 100000
set_option linter.unusedSimpArgs false
set_option linter.unusedVariables false

theorem hnd_step (P : List Pn) (i : Nat) (h : i < P.length) : hndL 0 (P.take (i + 1)) = hndL 0 (P.take i) ++ (if (P.getD i zPn).full = true then [((i : Int), ((P.getD i zPn).us : Int) - 1)] else []) := by
 rw [List.take_add_one, List.getElem?_eq_getElem h, Option.toList_some, hnd_app, List.length_take, Nat.min_eq_left (by omega), getD_lt P i zPn h, Nat.zero_add]
 congr 1
theorem hnd_len : ∀ (i : Nat) (P : List Pn), (hndL i P).length ≤ P.length
 | _, [] => Nat.le_refl 0
 | i, p :: r => by
  have := hnd_len (i + 1) r
  simp only [hndL, List.length_cons]
  split <;> simp <;> omega
def RowH (w : World) (B : Nat) (v : Value) (L : List (Int × Int)) : Prop := w.ownsRow B 33 2 v L.length (hcs L)
theorem RowH.cs {w : World} {B : Nat} {v : Value} {L : List (Int × Int)} (h : RowH w B v L) : ∃ a c, v = .slice a L.length c ∧ Cs w a (hcs L) ∧ L.length ≤ c := own_cs h
theorem RowH.nil (w : World) (B : Nat) : RowH w B (.slice none 0 0) [] := World.ownsRow_nil _ _ _ _
theorem RowH.below {w w' : World} {B : Nat} {v : Value} {L : List (Int × Int)} (h : RowH w B v L) (hb : Below w.heap.size w w') : RowH w' B v L := own_below h hb
theorem grow_hn {w : World} {B : Nat} {v : Value} {A : List (Int × Int)} (h : RowH w B v A) (hB : B ≤ w.heap.size) (x : Int × Int) (hl : A.length ≤ 100000) :
  ∃ a c V2, (Builtin.append_ #[36, 36] 36 #[v, .slice (some ⟨w.heap.size, 0, none⟩) 1 1]).run Try.prog (w.alloc (.cells (hnA x) 33)) = .ok (.slice a (A ++ [x]).length c) V2 ∧ RowH V2 B (.slice a (A ++ [x]).length c) (A ++ [x]) ∧ Below B w V2 := by
 have hb : Below w.heap.size w (w.alloc (.cells (hnA x) 33)) := (Below.refl _ w).alloc (Nat.le_refl _) _
 have hO := own_below h hb
 have hc : Cs (w.alloc (.cells (hnA x) 33)) (some ⟨w.heap.size, 0, none⟩) (hnl x) := Cs.block (t := 33) (fr := (0, 0)) (heap_alloc_last w _)
 obtain ⟨v2, V2, hr, hO2, hb2, -⟩ := append_cs (P := Try.prog) (t := 36) (m := 1) Try.underlying36 infoHn (by kernel_rfl) (by omega) (by omega) hO (some ⟨w.heap.size, 0, none⟩) 1 (hnl x) hc rfl (hn_one x) (by simp; omega) hl (by omega)
 have e : hcs (A ++ [x]) = hcs A ++ hnl x := by unfold hcs; rw [List.flatMap_append]; simp
 have hO3 : RowH V2 B v2 (A ++ [x]) := by unfold RowH; rw [e, List.length_append]; exact hO2
 obtain ⟨a, c, rfl, -, -⟩ := hO3.cs
 exact ⟨a, c, V2, hr, hO3, (hb.mono hB).trans hb2⟩
theorem make_hn (w : World) (c : Nat) (hc : c ≤ 100000) : ∃ w1, (Instr.makeSlice 36 (.int .i64 0) (.int .i64 (c : Int))).run Try.prog w = .ok (.slice (some ⟨w.heap.size, 0, none⟩) 0 c) w1 ∧ RowH w1 w.heap.size (.slice (some ⟨w.heap.size, 0, none⟩) 0 c) [] ∧ Below w.heap.size w w1 := by
 obtain ⟨i0, hi, hz0, hz1, hz2⟩ := info_parts infoHn
 obtain ⟨w1, hr, hO, hg⟩ := run_make_own (P := Try.prog) w w.heap.size 36 33 i0 _ 2 Try.underlying36 hi hz0 hz1 .i64 .i64 c (by rw [hz2]; omega) (by unfold maxLen; omega) (Nat.le_refl _)
 exact ⟨w1, hr, hO, hg.os, hg.tape, hg.output, hg.size, fun k hk => hg.block k hk (by simp)⟩
theorem gw_make {P : Program} {ops : Array Oper} {rest : List Oper} {o : Oper} {a : Act} {w : World} {Q : Exit → Act → World → Prop} (hw : Region.wanted o (yielded ops a.tmps) = true) (d : Option Tmp) (hd : o.dst = d) (t : TypeId) (x y : Operand) (ho : o.op = .makeSlice t x y)
  (vx vy v : Value) (hx : a.eval x = vx) (hy : a.eval y = vy) (w2 : World) (hr : (Instr.makeSlice t vx vy).run P w = .ok v w2) (k : wpList P ops Q rest (a.put d v) w2) : wpList P ops Q (o :: rest) a w := by
 refine gw_new hw d hd v w2 ?_ k
 unfold execOp
 simp only [ho, hx, hy, Sem.run_bind, hr]
 rfl
/-- A new box that is written at once. -/
theorem new_bx {c c' : Array Value} {ty : TypeId} (w : World) (hz : c.size = c'.size) (h1 : c'.all (·.oneCell') = true) (hs : (Try.prog.info? ty).map (·.size) = some c'.size) : ∃ V, (Instr.storeAt ty (.pointer (some ⟨w.heap.size, 0, none⟩)) (.agg c')).run Try.prog (w.alloc (.cells c ty)) = .ok () V ∧ Below w.heap.size w V ∧ Bx V w.heap.size c' ty := by
 obtain ⟨V, hst, hX, hbt⟩ := st_all (cs' := c') (ty := ty) (heap_alloc_last w (.cells c ty) : Bx _ _ c ty) hz h1 hs
 exact ⟨V, hst, ((Below.refl _ w).alloc (Nat.le_refl _) _).trans hbt.1, hX⟩
/-- What Handles returns. -/
def HdO (w : World) (L : List (Int × Int)) (e : Ending) (w' : World) : Prop := ∃ a c, e = .returned (.slice a L.length c) ∧ RowH w' w.heap.size (.slice a L.length c) L ∧ Below w.heap.size w w'
set_option maxRecDepth 100000 in
set_option maxHeartbeats 8000000 in
theorem q_han {w : World} {g : Nat} {S : Nat → Prop} {m : Sm} {u : Nat} (h : RepS w g S m) (hm : Wm m u) : Calls Try.prog 15 #[.pointer (some ⟨g, 0, none⟩)] w (HdO w (hndL 0 m.P)) := by
 obtain ⟨a, c, T, fr, hM, hl, -⟩ := h
 have h512 := cnt_512 hm
 have hpl := hm.pl
 have hlen := hl.len
 have hX := hM.bx
 obtain ⟨w1, hmk, hO1, hb1⟩ := make_hn w (cntL m.P) (by omega)
 have HRNG : Hid (∀ V, Below w.heap.size w V → ∀ i, i < T.length → ∃ b, a = some ⟨b, 0, none⟩ ∧ V.rangeAt b (0 + i * 44) (sll (T.getD i zSn))) := Lib.hid fun V hV i hi => (hM.below hV).rg hi
 have HFU : Hid (∀ i, i < T.length → (T.getD i zSn).full = (m.P.getD i zPn).full ∧ ((m.P.getD i zPn).full = true → (T.getD i zSn).us = ((m.P.getD i zPn).us : Int) - 1)) := Lib.hid fun i hi => ⟨hl.full i hi, fun hf => by have := hl.us i hi; rwa [hf, if_pos rfl] at this⟩
 have hXw := hX.below hX.lt hb1
 generalize m.P = P at *
 obtain ⟨k, hk⟩ : ∃ k, cntL P = k := ⟨_, rfl⟩
 rw [hk] at hX hXw hmk hO1
 obtain ⟨n, hn⟩ : ∃ n, T.length = n := ⟨_, rfl⟩
 rw [hn] at hX hXw HRNG HFU
 have HPL : Hid (P.length = n) := Lib.hid (by omega)
 have HNB : Hid (n ≤ 512) := Lib.hid (by omega)
 have HST : Hid (RowH w1 w.heap.size (.slice (some ⟨w.heap.size, 0, none⟩) (hndL 0 (P.take 0)).length k) (hndL 0 (P.take 0)) ∧ Below w.heap.size w w1) := Lib.hid ⟨hO1, hb1⟩
 obtain ⟨mo, hmo⟩ : ∃ z : Int, (m.mo : Int) = z := ⟨_, rfl⟩
 obtain ⟨bt, hbt⟩ : ∃ z : Int, (sizL P : Int) = z := ⟨_, rfl⟩
 rw [hmo, hbt] at hX hXw
 clear hM hl hlen hm hpl h512 hk hn hmo hbt hO1 hb1
 go_enter Try.func15, Try.ntmps15
 go_upto_region 1 with fail
 refine wl <| gz2 (.pointer (some ⟨g, 0, none⟩)) (.bool false) <| wn ?_
 simp only [pu]
 go_upto_region 3 with fail
 refine wl <| gz3 (.pointer (some ⟨g, 0, none⟩)) (.pointer (some ⟨g, 0, none⟩)) (.pointer (some ⟨g, 3, none⟩)) <| gzl rfl ⟨g, 3, none⟩ (.int .i64 k) (hX.load (i := 3) rfl (by kernel_rfl)) ?_
 simp only [pu]
 refine gw_make (by kernel_rfl) (some 12) rfl 36 (.const (.int .i64 0)) (.tmp 11) rfl (.int .i64 0) (.int .i64 k) (.slice (some ⟨w.heap.size, 0, none⟩) 0 k) (by kernel_rfl) (by kernel_rfl) w1 hmk ?_
 simp only [pu]
 refine gz1 (.slice (some ⟨w.heap.size, 0, none⟩) 0 k) <| wn ?_
 simp only [pu]
 clear hmk hX
 go_upto_region 4 with fail
 refine wl <| gz3 (.pointer (some ⟨g, 0, none⟩)) (.pointer (some ⟨g, 0, none⟩)) (.pointer (some ⟨g, 1, none⟩)) <| gzl rfl ⟨g, 1, none⟩ (.slice a n c) (hXw.load (i := 1) rfl (by kernel_rfl)) <| gz2 (.int .i64 n) (.int .i64 0) <| wn ?_
 simp only [pu]
 clear hXw
 go_wp2_with fail
 go_loopg [3, 18] n (fun gg s3 s18 wx => ∃ (i : Nat) (a2 : Option Addr) (c2 : Nat), s18 = .int .i64 i ∧ s3 = .slice a2 (hndL 0 (P.take i)).length c2 ∧ i ≤ n ∧ gg + i = n ∧ Hid (RowH wx w.heap.size (.slice a2 (hndL 0 (P.take i)).length c2) (hndL 0 (P.take i)) ∧ Below w.heap.size w wx))
 case atStart => exact ⟨0, _, _, rfl, rfl, by omega, by omega, HST⟩
 case round =>
  obtain ⟨i, a2, c2, rfl, rfl, hin, hg, HR⟩ := hrel
  clear HST
  obtain ⟨len, hlen⟩ : ∃ k, (hndL 0 (P.take i)).length = k := ⟨_, rfl⟩
  have HLEN := Lib.hid hlen
  rw [hlen]
  have HGK : Hid (gk + i = n) := Lib.hid hg
  clear hg hlen
  by_cases hlt : i < n
  ·skip
   obtain ⟨b, hbb, hrg⟩ := HRNG.out wr HR.out.2 i hlt
   obtain rfl := hbb
   have hP := HFU.out i hlt
   obtain ⟨x, hx⟩ : ∃ x, T.getD i zSn = x := ⟨_, rfl⟩
   rw [hx] at hrg hP
   obtain ⟨V2, hst2, hb2, hX2⟩ := new_bx (c := slA zSn) (c' := slA x) (ty := 75) wr rfl (by kernel_rfl) (by kernel_rfl)
   have HR2 := Lib.hid (⟨HR.out.1.below hb2, HR.out.2.trans (hb2.mono HR.out.2.size)⟩ : RowH V2 w.heap.size (.slice a2 (hndL 0 (P.take i)).length c2) (hndL 0 (P.take i)) ∧ Below w.heap.size w V2)
   go_upto_region 5 with fail
   refine wl <| gzb (lss_n rfl (i) (n) dT) <| wn ?_
   simp only [pu]
   go_upto_region 6 with fail
   refine wl <| gz1 (.int .i64 i) <| gzv (.pointer (some ⟨b, 0 + i * 44, none⟩)) (idx_sl b 0 n c i hlt _ _ _ rfl (by kernel_rfl) (by kernel_rfl)) <| gzl rfl ⟨b, 0 + i * 44, none⟩ (.agg (slA x)) (load_sl hrg) ?_
   simp only [pu]
   refine run_to rfl (some 5) rfl (.pointer (some ⟨wr.heap.size, 0, none⟩)) (wr.alloc (.cells (slA zSn) 75)) (by kernel_rfl) ?_
   simp only [pu]
   refine gz1 (.int .i64 i) <| gzs rfl (hst2) <| wn ?_
   simp only [pu]
   obtain ⟨g5, hg5⟩ : ∃ g, wr.heap.size = g := ⟨_, rfl⟩
   rw [hg5] at hX2 ⊢
   clear hst2 hb2 hrg hg5 HR
   by_cases hfu : (P.getD i zPn).full = true
   ·skip
    have hs := hnd_step P i (by have := HPL.out; omega)
    rw [if_pos hfu] at hs
    go_upto_region 7 with fail
    refine wl <| gz1 (.pointer (some ⟨g5, 41, none⟩)) <| gzl rfl ⟨g5, 41, none⟩ (.bool true) (rg_cell (bx_range hX2) (j := 41) (by rw [show (some (Value.bool true)) = some (Value.bool (P.getD i zPn).full) by rw [hfu], ← hP.1]; rfl) (by kernel_rfl)) <| wn ?_
    simp only [pu]
    have hus := hP.2 hfu
    obtain ⟨q1, hq1⟩ : ∃ q : Int, ((P.getD i zPn).us : Int) - 1 = q := ⟨_, rfl⟩
    rw [hq1] at hs hus
    have HUB : Hid (q1 = ((P.getD i zPn).us : Int) - 1) := Lib.hid hq1.symm
    obtain ⟨a7, c7, V6, hap, hr6, hb6⟩ := grow_hn HR2.out.1 HR2.out.2.size ((i : Int), q1) (by have := hnd_len 0 (P.take i); rw [List.length_take] at this; have := HNB.out; omega)
    rw [HLEN.out] at hap
    have hbd := build_hn ((i : Int), q1) V2
    rw [← hs] at hr6 hap
    have HR6 := Lib.hid (⟨hr6, HR2.out.2.trans hb6⟩ : RowH V6 w.heap.size (.slice a7 (hndL 0 (P.take (i + 1))).length c7) (hndL 0 (P.take (i + 1))) ∧ Below w.heap.size w V6)
    clear hq1 hs hr6 hb6 hP
    go_upto_region 8 with fail
    refine wl <| gz3 (.slice a2 len c2) (.int .i64 i) (.pointer (some ⟨g5, 42, none⟩)) <| gzl rfl ⟨g5, 42, none⟩ (.int .i64 q1) (rg_cell (bx_range hX2) (j := 42) (by rw [← hus]; rfl) (by kernel_rfl)) <| gz1 (.agg #[.int .i64 i, .int .i64 q1]) ?_
    simp only [pu]
    refine gw_build (by kernel_rfl) (some 30) rfl 36 1 #[(0, .tmp 29)] rfl #[(0, .agg (hnA ((i : Int), q1)))] (by kernel_rfl) (.slice (some ⟨V2.heap.size, 0, none⟩) 1 1) _ hbd ?_
    simp only [pu]
    refine append_step rfl (some 31) rfl 36 rfl (.tmp 25) (.tmp 30) 36 rfl (.slice a2 len c2) (.slice (some ⟨V2.heap.size, 0, none⟩) 1 1) (.slice a7 (hndL 0 (P.take (i + 1))).length c7) V6 (by kernel_rfl) (by kernel_rfl) hap ?_
    simp only [pu]
    refine gz1 (.slice a7 (hndL 0 (P.take (i + 1))).length c7) <| wn ?_
    simp only [pu]
    clear hap hbd hX2 hus HR2
    go_upto_region 9 with fail
    refine wl <| gzv (.int .i64 (i + 1 : Nat)) (add_one rfl i (by have := HNB.out; omega) (by kernel_rfl) _) <| gz1 (.int .i64 (i + 1 : Nat)) <| wn ?_
    simp only [pu]
    go_wp2_with fail
    go_roundg (n - (i + 1))
    case measure => have := HGK.out; omega
    case rel => exact ⟨i + 1, a7, c7, rfl, rfl, by omega, by omega, HR6⟩
   ·skip
    have hs := hnd_step P i (by have := HPL.out; omega)
    rw [if_neg hfu] at hs
    go_upto_region 7 with fail
    refine wl <| gz1 (.pointer (some ⟨g5, 41, none⟩)) <| gzl rfl ⟨g5, 41, none⟩ (.bool false) (rg_cell (bx_range hX2) (j := 41) (by rw [show (some (Value.bool false)) = some (Value.bool (P.getD i zPn).full) by rw [Bool.eq_false_iff.2 hfu], ← hP.1]; rfl) (by kernel_rfl)) <| wn ?_
    simp only [pu]
    rw [List.append_nil] at hs
    clear hX2 hP
    go_upto_region 9 with fail
    refine wl <| gzv (.int .i64 (i + 1 : Nat)) (add_one rfl i (by have := HNB.out; omega) (by kernel_rfl) _) <| gz1 (.int .i64 (i + 1 : Nat)) <| wn ?_
    simp only [pu]
    go_wp2_with fail
    go_roundg (n - (i + 1))
    case measure => have := HGK.out; omega
    case rel => exact ⟨i + 1, a2, c2, rfl, by rw [hs, HLEN.out], by omega, by omega, by rw [hs]; exact HR2⟩
  ·skip
   obtain rfl : i = n := by omega
   go_upto_region 5 with fail
   refine wl <| gzb (lss_n rfl (i) (i) dF) <| wn ?_
   simp only [pu]
   have HE : Hid (HdO w (hndL 0 P) (.returned (.slice a2 len c2)) wr) := Lib.hid (by have h1 := HR.out; rw [List.take_of_length_le (by have := HPL.out; omega)] at h1; refine ⟨a2, c2, ?_, h1.1, h1.2⟩; rw [← HLEN.out, List.take_of_length_le (by have := HPL.out; omega)])
   go_wp2_with fail
   go_ret
   exact HE.out
set_option maxRecDepth 100000 in
set_option maxHeartbeats 8000000 in
theorem n_len (w : World)  : Calls Try.prog 11 #[.pointer none] w fun r w' => r = .returned (.int .i64 0) ∧ Below w.heap.size w w' := by
 go_enter Try.func11, Try.ntmps11
 go_wp2_with fail
 go_ret
 exact ⟨rfl, Below.refl _ _⟩
set_option maxRecDepth 100000 in
set_option maxHeartbeats 8000000 in
theorem n_byt (w : World)  : Calls Try.prog 13 #[.pointer none] w fun r w' => r = .returned (.int .i64 0) ∧ Below w.heap.size w w' := by
 go_enter Try.func13, Try.ntmps13
 go_wp2_with fail
 go_ret
 exact ⟨rfl, Below.refl _ _⟩
set_option maxRecDepth 100000 in
set_option maxHeartbeats 8000000 in
theorem n_han (w : World)  : Calls Try.prog 15 #[.pointer none] w fun r w' => r = .returned (.slice none 0 0) ∧ Below w.heap.size w w' := by
 go_enter Try.func15, Try.ntmps15
 go_wp2_with fail
 go_ret
 exact ⟨rfl, Below.refl _ _⟩
end Go.Proofs.Ytmpajgaanghpoaa
