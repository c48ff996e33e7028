/-
  The reference's SameBytes, transfer: contracts.
-/
import Derived.Test.YtglglhcnofbagaaJ10
namespace Go.Proofs.Ytglglhcnofbagaa
attribute [local irreducible] wpList wpQuiet
open Go.RowKit
set_option linter.unusedSimpArgs false
set_option linter.unusedVariables false

set_option maxRecDepth 100000 in
set_option maxHeartbeats 8000000 in
theorem ref_same (a1 : Option Addr) (c1 : Nat) (L : List Int) (a2 : Option Addr) (c2 : Nat) (M : List Int) (w : World) (h1 : Sl w a1 c1 L) (h2 : Sl w a2 c2 M) (hL : ∀ x, x ∈ L → W8 x) (hM : ∀ x, x ∈ M → W8 x) :
  Calls Try.prog 38 #[.slice a1 L.length c1, .slice a2 M.length c2] w fun e w' => e = .returned (.bool (decide (L = M))) ∧ w = w' := by
 have HE : Hid ((strOfNums L == strOfNums M) = decide (L = M)) := Lib.hid (by rw [beq_nums, nums_str L hL, nums_str M hM])
 generalize decide (L = M) = tb at *
 go_enter Try.func38, Try.ntmps38
 go_upto_region 1 with fail
 refine wl <| gz1 (.slice a1 L.length c1) <| gzv (.string (strOfNums L)) (ex_str rfl h1 (by kernel_rfl)) <| gz1 (.slice a2 M.length c2) <| gzv (.string (strOfNums M)) (ex_str rfl h2 (by kernel_rfl)) <|
  gzw (.bool tb) (eql_s rfl (strOfNums L) (strOfNums M) HE.out) <| gz1 (.bool tb) <| wn ?_
 simp only [pu]
 go_wp2_with fail
 go_ret
 exact ⟨rfl, rfl⟩
/-- What was read so far of a transfer's fields. -/
def RfJ (P : List Fld) (j : Nat) (x : Tf) : Prop := rfTr (mtS, 0) P = rfTr x (P.drop j)
theorem RfJ.zero (P : List Fld) : RfJ P 0 (mtS, 0) := by unfold RfJ; rw [List.drop_zero]
theorem RfJ.to {P : List Fld} {j : Nat} {x : Tf} (h : RfJ P j x) (hj : j < P.length) (hc : P[j].num = 1 ∧ P[j].kind = 2) : RfJ P (j + 1) (strOfNums P[j].bytes, x.2) := by
 unfold RfJ at *
 rw [h, List.drop_eq_getElem_cons hj, rfTr, if_pos hc]
theorem RfJ.am {P : List Fld} {j : Nat} {x : Tf} (h : RfJ P j x) (hj : j < P.length) (hc : P[j].num = 2 ∧ P[j].kind = 0) : RfJ P (j + 1) (x.1, P[j].val) := by
 unfold RfJ at *
 rw [h, List.drop_eq_getElem_cons hj, rfTr, if_neg (by omega), if_pos hc]
theorem RfJ.no {P : List Fld} {j : Nat} {x : Tf} (h : RfJ P j x) (hj : j < P.length) (h1 : ¬ (P[j].num = 1 ∧ P[j].kind = 2)) (h2 : ¬ (P[j].num = 2 ∧ P[j].kind = 0)) : rfTr (mtS, 0) P = none := by
 unfold RfJ at *
 rw [h, List.drop_eq_getElem_cons hj, rfTr, if_neg h1, if_neg h2]
theorem RfJ.done {P : List Fld} {j : Nat} {x : Tf} (h : RfJ P j x) (hj : P.length ≤ j) : rfTr (mtS, 0) P = some x := by
 unfold RfJ at *
 rw [h, List.drop_eq_nil_of_le hj, rfTr]
theorem bytes_le {P : List Fld} {f : Fld} (h : f ∈ P) : f.bytes.length ≤ (msg P).length := by
 induction P with
 | nil => cases h
 | cons x r ih =>
  rw [msg_cons, List.length_append]
  rcases List.mem_cons.1 h with rfl | h
  ·have := encI_len_ge f.num f.kind f.val f.bytes
   have e : (encI f.num f.kind f.val f.bytes) = encF f := rfl
   rw [e] at this
   omega
  ·have := ih h; omega
/-- What region 12 keeps. -/
structure KR (W : World) (g2 g7 : Nat) (x : Tf) (b6 b9 b10 b14 : Bool) (x55 x58 x59 : Value) (V : World) : Prop where
 o9 : b9 = true → b6 = true
 o10 : b10 = true → b9 = true
 but : But g2 W V
 bx : Bx V g7 (tfA x) 35
 bz : b14 = false → Bx V g2 (tfA zTf) 35
 bd : b14 = true → Bx V g2 (tfA x) 35
 r55 : b6 = true → b9 = false → ∃ qs, RowS V W.heap.size x55 qs ∧ qs.map Prod.fst = tF 1 x.1
 r58 : b9 = true → b10 = false → ∃ qs, RowS V W.heap.size x58 qs ∧ qs.map Prod.fst = trF x
 r59 : b10 = true → Own V W.heap.size x59 (msg (trF x))
section
variable {W : World} {g2 g7 : Nat} {x : Tf} {b6 b9 b10 b14 : Bool} {x55 x58 x59 : Value} {V : World}
theorem KR.lt (h : KR W g2 g7 x b6 b9 b10 b14 x55 x58 x59 V) : W.heap.size ≤ V.heap.size := h.but.1.size
theorem KR.s6 (h : KR W g2 g7 x false b9 b10 b14 x55 x58 x59 V) (hg : g2 < W.heap.size) (hg7 : g7 < W.heap.size) {v : Value} {V2 : World} {qs : List (Fld × Value)} (hr : RowS V2 W.heap.size v qs) (hq : qs.map Prod.fst = tF 1 x.1) (hb : Below W.heap.size V V2) : KR W g2 g7 x true b9 b10 b14 v x58 x59 V2 := by
 have h9 := ff h.o9 rfl
 have h10 := ff h.o10 h9
 subst h9 h10
 exact ⟨fun _ => rfl, h.o10, h.but.more hb (Nat.le_of_lt hg), h.bx.below hg7 hb, fun e => (h.bz e).below hg hb, fun e => (h.bd e).below hg hb, fun _ _ => ⟨qs, hr, hq⟩, (fun e => nomatch e), (fun e => nomatch e)⟩
theorem KR.s9 (h : KR W g2 g7 x true false b10 b14 x55 x58 x59 V) (hg : g2 < W.heap.size) (hg7 : g7 < W.heap.size) {v : Value} {V2 : World} {qs : List (Fld × Value)} (hr : RowS V2 W.heap.size v qs) (hq : qs.map Prod.fst = trF x) (hb : Below W.heap.size V V2) : KR W g2 g7 x true true b10 b14 x55 v x59 V2 := by
 have h10 := ff h.o10 rfl
 subst h10
 exact ⟨fun _ => rfl, fun _ => rfl, h.but.more hb (Nat.le_of_lt hg), h.bx.below hg7 hb, fun e => (h.bz e).below hg hb, fun e => (h.bd e).below hg hb, (fun _ e => nomatch e), fun _ _ => ⟨qs, hr, hq⟩, (fun e => nomatch e)⟩
theorem KR.s10 (h : KR W g2 g7 x b6 true false b14 x55 x58 x59 V) (hg : g2 < W.heap.size) (hg7 : g7 < W.heap.size) {v : Value} {V2 : World} (hr : Own V2 W.heap.size v (msg (trF x))) (hb : Below V.heap.size V V2) : KR W g2 g7 x b6 true true b14 x55 x58 v V2 := by
 have hb' := hb.mono h.lt
 exact ⟨h.o9, fun _ => rfl, h.but.more hb' (Nat.le_of_lt hg), h.bx.below hg7 hb', fun e => (h.bz e).below hg hb', fun e => (h.bd e).below hg hb', (fun _ e => nomatch e), (fun _ e => nomatch e), fun _ => hr⟩
theorem KR.s14 (h : KR W g2 g7 x b6 b9 b10 false x55 x58 x59 V) (hg : g2 < W.heap.size) (hne : g7 ≠ g2) : (Instr.storeAt 35 (.pointer (some ⟨g2, 0, none⟩)) (.agg (tfA x))).run Try.prog V = .ok () (V.setRow g2 (tfA x)) ∧ KR W g2 g7 x b6 b9 b10 true x55 x58 x59 (V.setRow g2 (tfA x)) := by
 obtain ⟨hst, hZ⟩ := store_tf (y := x) (h.bz rfl)
 have hbt : But g2 V (V.setRow g2 (tfA x)) := But.setRow V _
 exact ⟨hst, h.o9, h.o10, h.but.trans hbt, h.bx.but hbt hne, (fun e => nomatch e), fun _ => hZ, fun e1 e2 => by obtain ⟨qs, q1, q2⟩ := h.r55 e1 e2; exact ⟨qs, q1.but hbt hg, q2⟩, fun e1 e2 => by obtain ⟨qs, q1, q2⟩ := h.r58 e1 e2; exact ⟨qs, q1.but hbt hg, q2⟩, fun e1 => own_but (h.r59 e1) hbt hg⟩
end
theorem sl_lt {w : World} {a : Option Addr} {c : Nat} {L : List Int} (h : Sl w a c L) (hne : L ≠ []) (x : Addr) (hx : a = some x) : x.block < w.heap.size := by
 obtain ⟨b, off, e, hb, -⟩ := sl_at h (k := 0) (List.length_pos_iff.2 hne)
 rw [hx] at e
 cases e
 exact hb
theorem rfT_none1 {b : List Int} (h : rfTr (mtS, 0) (flds b).1 = none) : rfT b = none := by unfold rfT; rw [h]
theorem rfT_some {b : List Int} {x : Tf} (h : rfTr (mtS, 0) (flds b).1 = some x) : rfT b = if (flds b).2.2 = 0 ∧ msg (trF x) = b then some x else none := by unfold rfT; rw [h]
set_option maxRecDepth 100000 in
set_option maxHeartbeats 8000000 in
theorem ref_transfer (a : Option Addr) (c : Nat) (L : List Int) (w : World) (hs : Sl w a c L) (hc : L.length ≤ c) (hl : L.length ≤ 100000) (h8 : ∀ y, y ∈ L → W8 y) :
  Calls Try.prog 62 #[.slice a L.length c] w (TfO w (rfT L)) := by
 have hb0 : Below w.heap.size w (w.alloc (.cells (tfA zTf) 35)) := (Below.refl _ w).alloc (Nat.le_refl _) _
 have hX0 : Bx (w.alloc (.cells (tfA zTf) 35)) w.heap.size (tfA zTf) 35 := heap_alloc_last w _
 have CF := ref_fields a c L (w.alloc (.cells (tfA zTf) 35)) (by omega) (sl_below hs hb0) h8 hc
 have HFV : Hid ((∀ f, f ∈ (flds L).1 → Vf f) ∧ (flds L).1.length ≤ 100000 ∧ (∀ f, f ∈ (flds L).1 → f.bytes.length ≤ 100000) ∧ ((flds L).2.2 ≠ 0 → (flds L).1 = [])) := Lib.hid (by
  rcases flds_ok (fun y hy => h8 y hy) (by omega) with ⟨e, q⟩ | ⟨P, e, hm, hP⟩
  ·rw [e]; exact ⟨(fun f h => nomatch h), by simp, (fun f h => nomatch h), fun _ => rfl⟩
  ·rw [e]; exact ⟨hP, by have := msg_ge P; rw [hm] at this; simp only; omega, fun f hf => by have := bytes_le hf; rw [hm] at this; omega, fun h => absurd rfl h⟩)
 have HR1 : Hid (rfTr (mtS, 0) (flds L).1 = none → rfT L = none) := Lib.hid rfT_none1
 have HR2 := Lib.hid (fun x h => @rfT_some L x h)
 have HTO : Hid (∀ V y ok, Below w.heap.size w V → rfT L = (if ok = true then some y else none) → TfO w (rfT L) (.returned (.tuple #[.agg (tfA y), .bool ok])) V) := Lib.hid fun V y ok hb e => ⟨y, ok, rfl, e, hb⟩
 have H8 := Lib.hid h8
 have HAG := Lib.hid (sl_lt hs)
 generalize rfT L = RR at *
 generalize flds L = FR at *
 go_enter Try.func62, Try.ntmps62
 go_upto_region 1 with fail
 change Code.wp _ _ _ _ (w.alloc (.cells (tfA zTf) 35))
 generalize w.alloc (.cells (tfA zTf) 35) = W at *
 obtain ⟨g2, hg2⟩ : ∃ g2, w.heap.size = g2 := ⟨_, rfl⟩
 have hsW := sl_below hs hb0
 have HB0 := Lib.hid hb0
 have HG2 : Hid (w.heap.size ≤ g2) := Lib.hid (by omega)
 rw [hg2] at hX0
 rw [hg2]
 clear hb0 hg2 hs h8
 refine wl <| gz1 (.slice a L.length c) <|
  gze (fun v w' => ∃ a c ps, v = .tuple #[.slice a ps.length c, .int .i64 FR.2.1, .int .i64 FR.2.2] ∧ ps.map Prod.fst = FR.1 ∧ ps.length ≤ c ∧ FsB w' W.heap.size a ps ∧ Below W.heap.size W w') (CF.mono fun e w' q => by obtain ⟨v, ps, h1, h2, h3, h4⟩ := q; obtain ⟨a, c, rfl, hc, hf⟩ := h3.fsb; exact ⟨_, h1, a, c, ps, rfl, h2, hc, hf, h4⟩) (fun v5 V5 hq => ?_)
 obtain ⟨a5, c5, ps, rfl, hps, hc5, hF5, hb5⟩ := hq
 simp only [pu]
 refine gz6 (.tuple #[.slice a5 ps.length c5, .int .i64 FR.2.1, .int .i64 FR.2.2]) (.slice a5 ps.length c5) (.int .i64 FR.2.1) (.int .i64 FR.2.2) (.slice a5 ps.length c5) (.int .i64 FR.2.1) <| gz1 (.int .i64 FR.2.2) <| wn ?_
 simp only [pu]
 have hX5 := hX0.below hX0.lt hb5
 have HB5 := Lib.hid (HB0.out.trans (hb5.mono HB0.out.size))
 have hsV5 := sl_below hsW hb5
 have HWL : Hid (W.heap.size ≤ V5.heap.size) := Lib.hid hb5.size
 obtain ⟨P, n5, e5⟩ := FR
 dsimp only at *
 subst hps
 clear hb5 hX0 HB0 CF hsW
 go_upto_region 2 with fail
 apply wp_region_lit
 refine run_to rfl (some 7) rfl (.pointer (some ⟨V5.heap.size, 0, none⟩)) (V5.alloc (.cells (tfA zTf) 35)) (by kernel_rfl) ?_
 simp only [pu]
 apply wpList_nil
 have hb6 : Below V5.heap.size V5 (V5.alloc (.cells (tfA zTf) 35)) := (Below.refl _ V5).alloc (Nat.le_refl _) _
 have hX7 : Bx (V5.alloc (.cells (tfA zTf) 35)) V5.heap.size (tfA zTf) 35 := heap_alloc_last V5 _
 generalize V5.alloc (.cells (tfA zTf) 35) = V6 at *
 obtain ⟨g7, hg7⟩ : ∃ g7, V5.heap.size = g7 := ⟨_, rfl⟩
 rw [hg7] at hX7 ⊢
 have HG7 : Hid (V5.heap.size ≤ g7) := Lib.hid (by omega)
 have HGL : Hid (g2 < V5.heap.size) := Lib.hid hX5.lt
 have HX2 := Lib.hid hX5
 have HF5 := Lib.hid hF5
 have HS5 := Lib.hid hsV5
 have HB6 := Lib.hid hb6
 have HX7 := Lib.hid hX7
 have HJ0 := Lib.hid (RfJ.zero (ps.map Prod.fst))
 have HWV : Hid (w.heap.size ≤ V5.heap.size) := Lib.hid HB5.out.size
 obtain ⟨n, hn⟩ : ∃ n, ps.length = n := ⟨_, rfl⟩
 have HN := Lib.hid hn
 have HNL : Hid (n ≤ 100000) := Lib.hid (by have := HFV.out.2.1; rw [List.length_map] at this; omega)
 rw [hn]
 clear hb6 hX7 hX5 hF5 hsV5 hg7 hn
 go_upto_region 3 with fail
 refine wl <| gz3 (.slice a5 n c5) (.int .i64 n) (.int .i64 0) <| wn ?_
 simp only [pu]
 go_wp2_with fail
 go_loopg [18] n (fun gg s18 wx => ∃ (j : Nat) (x : Tf), s18 = .int .i64 j ∧ j ≤ n ∧ Hid (Bx wx g7 (tfA x) 35) ∧ Hid (RfJ (ps.map Prod.fst) j x) ∧ Hid (x.1.size ≤ 100000 ∧ W64 x.2) ∧ Hid (Below V5.heap.size V5 wx) ∧ n - j = gg)
 case atStart => exact ⟨0, (mtS, 0), rfl, by omega, HX7, HJ0, Lib.hid ⟨by decide, w64_0⟩, HB6, by omega⟩
 case round =>
  obtain ⟨j, x, rfl, hj, HBX, HJ, HXB, HB, hg⟩ := hrel
  clear HX7 HJ0 HB6
  by_cases hlt : j < n
  ·skip
   have HG : Hid (n - (j + 1) = gk - 1 ∧ 0 < gk ∧ j + 1 ≤ n ∧ j + 1 ≤ 100000) := Lib.hid ⟨by omega, by omega, by omega, by have := HNL.out; omega⟩
   have hjq : j < ps.length := by rw [HN.out]; exact hlt
   obtain ⟨b, off, ba, bc, rfl, hp2, hsl, hbox⟩ := (HF5.out.below HB.out).fs j ps[j] (List.getElem?_eq_getElem hjq)
   have hvx := HFV.out.1 ps[j].1 (by exact List.mem_map_of_mem (List.getElem_mem hjq))
   have hbl := HFV.out.2.2.1 ps[j].1 (by exact List.mem_map_of_mem (List.getElem_mem hjq))
   have hjm : j < (ps.map Prod.fst).length := by rw [List.length_map]; exact hjq
   have hgx : (ps.map Prod.fst)[j] = ps[j].1 := List.getElem_map ..
   have HS1 : Hid (ps[j].1.num = 1 ∧ ps[j].1.kind = 2 → RfJ (ps.map Prod.fst) (j + 1) (strOfNums ps[j].1.bytes, x.2)) := Lib.hid fun hc => by rw [← hgx] at hc ⊢; exact HJ.out.to hjm hc
   have HS2 : Hid (ps[j].1.num = 2 ∧ ps[j].1.kind = 0 → RfJ (ps.map Prod.fst) (j + 1) (x.1, ps[j].1.val)) := Lib.hid fun hc => by rw [← hgx] at hc ⊢; exact HJ.out.am hjm hc
   have HS3 : Hid (¬ (ps[j].1.num = 1 ∧ ps[j].1.kind = 2) → ¬ (ps[j].1.num = 2 ∧ ps[j].1.kind = 0) → RR = none) := Lib.hid fun h1 h2 => HR1.out (by rw [← hgx] at h1 h2; exact HJ.out.no hjm h1 h2)
   have HSZ : Hid ((strOfNums ps[j].1.bytes).size ≤ 100000 ∧ W64 ps[j].1.val) := Lib.hid ⟨by rw [str_size _ hvx.2.2.1]; exact hbl, hvx.2.1⟩
   generalize ps[j].1 = y at *
   have hld := load_fd (fd_range hbox)
   obtain ⟨V6, hst, hb6, hbx⟩ := new_fd wr y ba bc
   have hX7 := HBX.out.below HBX.out.lt hb6
   have HB7 := Lib.hid (HB.out.trans (hb6.mono HB.out.size))
   have hs6 := sl_below hsl hb6
   clear hp2 hsl hbox hvx hjm hgx HJ hb6 hg hjq HBX HB hbl
   go_upto_region 4 with fail
   refine wl <| gzb (lss_n rfl (j) (n) dT) <| wn ?_
   simp only [pu]
   go_upto_region 5 with fail
   refine wl <| gzv (.pointer (some ⟨b, off + j * 4, none⟩)) (idx_fd b off n c5 j hlt _ _ _ rfl (by kernel_rfl) (by kernel_rfl)) <| gzl rfl ⟨b, off + j * 4, none⟩ (.agg (fdA y ba bc)) (hld) ?_
   simp only [pu]
   refine run_to rfl (some 9) rfl (.pointer (some ⟨wr.heap.size, 0, none⟩)) (wr.alloc (.cells (fdA zeroF none 0) 66)) (by kernel_rfl) ?_
   simp only [pu]
   refine gzs rfl (hst) <| wn ?_
   obtain ⟨g9, hg9⟩ : ∃ g9, wr.heap.size = g9 := ⟨_, rfl⟩
   rw [hg9] at hbx ⊢
   clear hst hg9 hld
   rcases (show (y.num = 1 ∧ y.kind = 2) ∨ (y.num = 2 ∧ y.kind = 0) ∨ (¬ (y.num = 1 ∧ y.kind = 2) ∧ ¬ (y.num = 2 ∧ y.kind = 0)) by omega) with hcs | hcs | hcs
   ·skip
    have HRF := Lib.hid (HS1.out hcs)
    have HSZ2 : Hid ((strOfNums y.bytes).size ≤ 100000 ∧ W64 x.2) := Lib.hid ⟨HSZ.out.1, HXB.out.2⟩
    go_upto_region 7 with fail
    refine wl <| gz1 (.pointer (some ⟨g9, 0, none⟩)) <| gzl rfl ⟨g9, 0, none⟩ (.int .i64 y.num) (hbx.load (i := 0) rfl (by kernel_rfl)) <| gzb (eql_n rfl (y.num) (1) (decide_eq_true (hcs.1))) <|
     gz2 (.bool true) (.pointer (some ⟨g9, 1, none⟩)) <| gzl rfl ⟨g9, 1, none⟩ (.int .i64 y.kind) (hbx.load (i := 1) rfl (by kernel_rfl)) <| gzb (eql_n rfl (y.kind) (2) (decide_eq_true (hcs.2))) <| gz2 (.bool true) (.bool true) <| wn ?_
    simp only [pu]
    obtain ⟨V8, hst8, hX8, hb8, -⟩ := st_cell (i := 0) (ty := 9) (v := .string (strOfNums y.bytes)) (cs' := tfA (strOfNums y.bytes, x.2)) hX7 HB7.out HG7.out (by show 0 < 2; decide) rfl (by kernel_rfl) rfl
    have HX8 := Lib.hid hX8
    have HB8 := Lib.hid hb8
    go_upto_region 8 with fail
    refine wl <| gz1 (.pointer (some ⟨g9, 3, none⟩)) <| gzl rfl ⟨g9, 3, none⟩ (.slice ba y.bytes.length bc) (hbx.load (i := 3) rfl (by kernel_rfl)) <| gzv (.string (strOfNums y.bytes)) (ex_str rfl hs6 (by kernel_rfl)) <| gz1 (.pointer (some ⟨g7, 0, none⟩)) <| gzs rfl (hst8) <|
     wpList_nil ?_
    simp only [pu]
    clear hst8 hX8 hb8 hbx hX7 HB7 hs6 HS1 HS2 HS3 HSZ HXB
    go_upto_region 11 with fail
    refine wl <| gzv (.int .i64 (j + 1 : Nat)) (add_one rfl j (by have := HG.out; omega) (by kernel_rfl) _) <| gz1 (.int .i64 (j + 1 : Nat)) <| wn ?_
    simp only [pu]
    go_wp2_with fail
    go_roundg (gk - 1)
    case measure => have := HG.out; omega
    case rel => exact ⟨j + 1, (strOfNums y.bytes, x.2), rfl, HG.out.2.2.1, HX8, HRF, HSZ2, HB8, HG.out.1⟩
   ·skip
    have HRF := Lib.hid (HS2.out hcs)
    have HSZ2 : Hid (x.1.size ≤ 100000 ∧ W64 y.val) := Lib.hid ⟨HXB.out.1, HSZ.out.2⟩
    go_upto_region 7 with fail
    refine wl <| gz1 (.pointer (some ⟨g9, 0, none⟩)) <| gzl rfl ⟨g9, 0, none⟩ (.int .i64 y.num) (hbx.load (i := 0) rfl (by kernel_rfl)) <| gzb (eql_n rfl (y.num) (1) dF) <|
     gz6 (.bool false) undef undef undef (.bool false) (.bool false) <| wn ?_
    simp only [pu]
    go_upto_region 9 with fail
    refine wl <| gz1 (.pointer (some ⟨g9, 0, none⟩)) <| gzl rfl ⟨g9, 0, none⟩ (.int .i64 y.num) (hbx.load (i := 0) rfl (by kernel_rfl)) <| gzb (eql_n rfl (y.num) (2) (decide_eq_true (hcs.1))) <|
     gz2 (.bool true) (.pointer (some ⟨g9, 1, none⟩)) <| gzl rfl ⟨g9, 1, none⟩ (.int .i64 y.kind) (hbx.load (i := 1) rfl (by kernel_rfl)) <| gzb (eql_n rfl (y.kind) (0) (decide_eq_true (hcs.2))) <| gz2 (.bool true) (.bool true) <| wn ?_
    simp only [pu]
    obtain ⟨V8, hst8, hX8, hb8, -⟩ := st_cell (i := 1) (ty := 22) (v := .int .u64 y.val) (cs' := tfA (x.1, y.val)) hX7 HB7.out HG7.out (by show 1 < 2; decide) rfl (by kernel_rfl) rfl
    have HX8 := Lib.hid hX8
    have HB8 := Lib.hid hb8
    go_upto_region 10 with fail
    refine wl <| gz1 (.pointer (some ⟨g9, 2, none⟩)) <| gzl rfl ⟨g9, 2, none⟩ (.int .u64 y.val) (hbx.load (i := 2) rfl (by kernel_rfl)) <| gz1 (.pointer (some ⟨g7, 1, none⟩)) <| gzs rfl (hst8) <| wn ?_
    simp only [pu]
    clear hst8 hX8 hb8 hbx hX7 HB7 hs6 HS1 HS2 HS3 HSZ HXB
    go_upto_region 11 with fail
    refine wl <| gzv (.int .i64 (j + 1 : Nat)) (add_one rfl j (by have := HG.out; omega) (by kernel_rfl) _) <| gz1 (.int .i64 (j + 1 : Nat)) <| wn ?_
    simp only [pu]
    go_wp2_with fail
    go_roundg (gk - 1)
    case measure => have := HG.out; omega
    case rel => exact ⟨j + 1, (x.1, y.val), rfl, HG.out.2.2.1, HX8, HRF, HSZ2, HB8, HG.out.1⟩
   ·skip
    have HRN := Lib.hid (HS3.out hcs.1 hcs.2)
    have hX2 := HX2.out.below HGL.out HB7.out
    obtain ⟨hst, hZ⟩ := store_tf (y := x) hX2
    have HB9 := Lib.hid (belowRow (HB5.out.trans (HB7.out.mono HWV.out)) HG2.out (tfA x))
    have HE := Lib.hid (HTO.out _ x false HB9.out HRN.out)
    generalize World.setRow _ g2 (tfA x) = V9 at *
    clear HTO HS1 HS2 HS3 HSZ HXB HB7 hs6 HRN HB9 hX2
    go_upto_region 7 with fail
    by_cases h1 : y.num = 1
    ·skip
     refine wl <| gz1 (.pointer (some ⟨g9, 0, none⟩)) <| gzl rfl ⟨g9, 0, none⟩ (.int .i64 y.num) (hbx.load (i := 0) rfl (by kernel_rfl)) <| gzb (eql_n rfl (y.num) (1) (decide_eq_true (h1))) <|
      gz2 (.bool true) (.pointer (some ⟨g9, 1, none⟩)) <| gzl rfl ⟨g9, 1, none⟩ (.int .i64 y.kind) (hbx.load (i := 1) rfl (by kernel_rfl)) <| gzb (eql_n rfl (y.kind) (2) dF) <| gz2 (.bool false) (.bool false) <|
      wpList_nil ?_
     simp only [pu]
     go_upto_region 9 with fail
     refine wl <| gz1 (.pointer (some ⟨g9, 0, none⟩)) <| gzl rfl ⟨g9, 0, none⟩ (.int .i64 y.num) (hbx.load (i := 0) rfl (by kernel_rfl)) <| gzb (eql_n rfl (y.num) (2) dF) <|
      gz6 (.bool false) undef undef undef (.bool false) (.bool false) <| wn ?_
     simp only [pu]
     go_upto_region 6 with fail
     refine wl <| gzl rfl ⟨g7, 0, none⟩ (.agg (tfA x)) (load_tfb hX7) <| gzs rfl (hst) <| gz1 (.bool false) <| wn ?_
     simp only [pu]
     go_wp2_with fail
     exact bodyPost_ret (results_c (p := 2) (q := 3) rfl (by kernel_rfl) (load_tfb hZ) rfl) rfl HE.out
    ·skip
     refine wl <| gz1 (.pointer (some ⟨g9, 0, none⟩)) <| gzl rfl ⟨g9, 0, none⟩ (.int .i64 y.num) (hbx.load (i := 0) rfl (by kernel_rfl)) <| gzb (eql_n rfl (y.num) (1) dF) <|
      gz6 (.bool false) undef undef undef (.bool false) (.bool false) <| wn ?_
     simp only [pu]
     go_upto_region 9 with fail
     by_cases h2 : y.num = 2
     ·skip
      refine wl <| gz1 (.pointer (some ⟨g9, 0, none⟩)) <| gzl rfl ⟨g9, 0, none⟩ (.int .i64 y.num) (hbx.load (i := 0) rfl (by kernel_rfl)) <| gzb (eql_n rfl (y.num) (2) (decide_eq_true (h2))) <|
       gz2 (.bool true) (.pointer (some ⟨g9, 1, none⟩)) <| gzl rfl ⟨g9, 1, none⟩ (.int .i64 y.kind) (hbx.load (i := 1) rfl (by kernel_rfl)) <| gzb (eql_n rfl (y.kind) (0) dF) <| gz2 (.bool false) (.bool false) <|
       wpList_nil ?_
      simp only [pu]
      go_upto_region 6 with fail
      refine wl <| gzl rfl ⟨g7, 0, none⟩ (.agg (tfA x)) (load_tfb hX7) <| gzs rfl (hst) <| gz1 (.bool false) <| wn ?_
      simp only [pu]
      go_wp2_with fail
      exact bodyPost_ret (results_c (p := 2) (q := 3) rfl (by kernel_rfl) (load_tfb hZ) rfl) rfl HE.out
     ·skip
      refine wl <| gz1 (.pointer (some ⟨g9, 0, none⟩)) <| gzl rfl ⟨g9, 0, none⟩ (.int .i64 y.num) (hbx.load (i := 0) rfl (by kernel_rfl)) <| gzb (eql_n rfl (y.num) (2) dF) <|
       gz6 (.bool false) undef undef undef (.bool false) (.bool false) <| wn ?_
      simp only [pu]
      go_upto_region 6 with fail
      refine wl <| gzl rfl ⟨g7, 0, none⟩ (.agg (tfA x)) (load_tfb hX7) <| gzs rfl (hst) <| gz1 (.bool false) <| wn ?_
      simp only [pu]
      go_wp2_with fail
      exact bodyPost_ret (results_c (p := 2) (q := 3) rfl (by kernel_rfl) (load_tfb hZ) rfl) rfl HE.out
  ·skip
   have HRS := Lib.hid (HR2.out x (HJ.out.done (by rw [List.length_map, HN.out]; omega)))
   have hX2 := HX2.out.below HGL.out HB.out
   have hX7 := HBX.out
   have hs9 := sl_below HS5.out HB.out
   have hg2l := hX2.lt
   have hg7l := hX7.lt
   have hne : g7 ≠ g2 := by have := HG7.out; have := HGL.out; omega
   have HB9 := Lib.hid (HB5.out.trans (HB.out.mono HWV.out))
   have HWR : Hid (W.heap.size ≤ wr.heap.size) := Lib.hid (Nat.le_trans HWL.out HB.out.size)
   clear HJ HBX HB hg HR1
   go_upto_region 4 with fail
   refine wl <| gzb (lss_n rfl (j) (n) dF) <| wn ?_
   simp only [pu]
   go_upto_region 12 with fail
   by_cases he : e5 = 0
   ·skip
    have CT : ∀ V, W.heap.size ≤ V.heap.size → wr.heap.size ≤ V.heap.size → Calls Try.prog 24 #[.slice none 0 0, .int .i64 1, .string x.1] V (FldS V wr.heap.size [] (tF 1 x.1)) := fun V _ hV => ref_textF (.slice none 0 0) [] wr.heap.size 1 x.1 V (RowS.nil V _) hV (Nat.zero_le _)
    have CN : ∀ V u qs, wr.heap.size ≤ V.heap.size → RowS V wr.heap.size u qs → qs.map Prod.fst = tF 1 x.1 → Calls Try.prog 25 #[u, .int .i64 2, .int .u64 x.2] V (FldS V wr.heap.size qs (nF 2 x.2)) := fun V u qs hV hu hq => ref_numF u qs wr.heap.size 2 x.2 V hu hV (by have := congrArg List.length hq; rw [List.length_map] at this; have := tF_len 1 x.1; omega)
    have CM : ∀ V u qs, wr.heap.size ≤ V.heap.size → RowS V wr.heap.size u qs → qs.map Prod.fst = trF x → Calls Try.prog 26 #[u] V (fun e w' => ∃ v, e = .returned v ∧ Own w' wr.heap.size v (msg (trF x)) ∧ Below V.heap.size V w') := fun V u qs hV hu hq => by
     obtain ⟨ua, uc, rfl, -, hfs⟩ := hu.fs
     have q1 := msg_trF x
     have q2 := HXB.out
     have := ref_message ua uc qs V hfs (flds_of hq (vf_tr (by omega) q2.2)) (by rw [hq]; omega) (by
      have := congrArg List.length hq
      rw [List.length_map] at this
      have := tF_len 1 x.1
      have := nF_len 2 x.2
      unfold trF at *
      rw [List.length_append] at *
      omega)
     rw [hq] at this
     exact this.mono fun e w' q => by
      obtain ⟨v, h1, h2, h3⟩ := q
      exact ⟨v, h1, h2.base hV, h3⟩
    obtain ⟨tb, htb⟩ : ∃ tb, decide (msg (trF x) = L) = tb := ⟨_, rfl⟩
    have CS : ∀ V u, But g2 wr V → Own V wr.heap.size u (msg (trF x)) → Calls Try.prog 38 #[u, .slice a L.length c] V (fun e w' => e = .returned (.bool tb) ∧ V = w') := fun V u hV hu => by
     obtain ⟨ua, uc, rfl, hus, -⟩ := hu.sl
     have := ref_same ua uc (msg (trF x)) a c L V hus (sl_but hs9 hV (fun hne y hy => by have := HAG.out hne y hy; have := HG2.out; omega)) (msg_bytes (vf_tr (by have := HXB.out.1; omega) HXB.out.2)) H8.out
     rw [htb] at this
     exact this
    have HRT : Hid (RR = if tb = true then some x else none) := Lib.hid (by
     rw [HRS.out, ← htb]
     by_cases hm : msg (trF x) = L
     ·rw [if_pos ⟨he, hm⟩, decide_eq_true hm]; rfl
     ·rw [if_neg (fun q => hm q.2), decide_eq_false hm]; rfl)
    have h0 : KR wr g2 g7 x false false false false undef undef undef wr.drew := ⟨(fun h => nomatch h), (fun h => nomatch h), ⟨(Below.refl _ _).drew, fun k hk _ => rfl⟩, hX7, fun _ => hX2, (fun h => nomatch h), (fun h => nomatch h), (fun h => nomatch h), (fun h => nomatch h)⟩
    clear hX7 hX2
    refine wp_region_inv (fun listed act9 V => ∃ b0 b1 b2 b3 b4 b5 b6 b7 b8 b9 b10 b11 b12 b13 b14 b15 : Bool, ∃ x55 x58 x59 : Value, listed = #[b0, b1, b2, b3, b4, b5, b6, b7, b8, b9, b10, b11, b12, b13, b14, b15] ∧ act9 = { tmps := #[.slice a L.length c, undef, .pointer (some ⟨g2, 0, none⟩), (cond b15 (.bool tb) (u3)), .slice a5 n c5, .int .i64 n5, .int .i64 e5, .pointer (some ⟨g7, 0, none⟩), undef, u9, .tuple #[.slice a5 n c5, .int .i64 n5, .int .i64 e5], .slice a L.length c, .tuple #[.slice a5 n c5, .int .i64 n5, .int .i64 e5], .slice a5 n c5, .int .i64 n5, .int .i64 e5, .slice a5 n c5, .int .i64 n, .int .i64 j, .bool false, u20, u21, u22, u23, u24, u25, u26, u27, u28, u29, u30, u31, u32, u33, u34, u35, u36, u37, u38, u39, u40, u41, u42, u43, u44, u45, u46, u47, u48, (cond b0 (.agg (tfA x)) undef), (cond b1 (.int .i64 e5) undef), (cond b2 (.bool true) undef), (cond b3 (.bool true) undef), (cond b4 (.pointer (some ⟨g7, 0, none⟩)) undef), (cond b5 (.string x.1) undef), x55, (cond b7 (.pointer (some ⟨g7, 1, none⟩)) undef), (cond b8 (.int .u64 x.2) undef), x58, x59, (cond b11 (.slice a L.length c) undef), (cond b12 (.bool tb) undef), (cond b13 (.bool tb) undef)], defers := [] } ∧ KR wr g2 g7 x b6 b9 b10 b14 x55 x58 x59 V) (by kernel_rfl) (by kernel_rfl) ?_ ?_ ?_
    ·exact ⟨false, false, false, false, false, false, false, false, false, false, false, false, false, false, false, false, undef, undef, undef, rfl, rfl, h0⟩
    ·intro i9 listed act9 V hi9 hr hJ
     obtain ⟨b0, b1, b2, b3, b4, b5, b6, b7, b8, b9, b10, b11, b12, b13, b14, b15, x55, x58, x59, rfl, rfl, hF⟩ := hJ
     have hi2 : i9 < 16 := hi9
     have hi3 : i9 = 0 ∨ i9 = 1 ∨ i9 = 2 ∨ i9 = 3 ∨ i9 = 4 ∨ i9 = 5 ∨ i9 = 6 ∨ i9 = 7 ∨ i9 = 8 ∨ i9 = 9 ∨ i9 = 10 ∨ i9 = 11 ∨ i9 = 12 ∨ i9 = 13 ∨ i9 = 14 ∨ i9 = 15 := by omega
     rcases hi3 with rfl | rfl | rfl | rfl | rfl | rfl | rfl | rfl | rfl | rfl | rfl | rfl | rfl | rfl | rfl | rfl
     ·obtain rfl : b0 = false := ready_self hr
      refine st_load rfl (by kernel_rfl) (some 49) rfl 35 (.tmp 7) rfl ⟨g7, 0, none⟩ (.agg (tfA x)) (by kernel_rfl) (load_tfb hF.bx) ?_
      exact ⟨true, b1, b2, b3, b4, b5, b6, b7, b8, b9, b10, b11, b12, b13, b14, b15, x55, x58, x59, rfl, rfl, hF⟩
     ·obtain rfl : b1 = false := ready_self hr
      refine st_val rfl (by kernel_rfl) (some 50) rfl (.int .i64 e5) V (by kernel_rfl) ?_
      exact ⟨b0, true, b2, b3, b4, b5, b6, b7, b8, b9, b10, b11, b12, b13, b14, b15, x55, x58, x59, rfl, rfl, hF⟩
     ·obtain rfl : b2 = false := ready_self hr
      obtain rfl : b1 = true := ready_dep hr 1 (by kernel_rfl)
      refine st_val rfl (by kernel_rfl) (some 51) rfl (.bool true) V (eql_e rfl e5 0 (decide_eq_true he) (by kernel_rfl) (by kernel_rfl) _) ?_
      exact ⟨b0, true, true, b3, b4, b5, b6, b7, b8, b9, b10, b11, b12, b13, b14, b15, x55, x58, x59, rfl, rfl, hF⟩
     ·obtain rfl : b3 = false := ready_self hr
      obtain rfl : b2 = true := ready_dep hr 2 (by kernel_rfl)
      refine st_val rfl (by kernel_rfl) (some 52) rfl (.bool true) V (by kernel_rfl) ?_
      exact ⟨b0, b1, true, true, b4, b5, b6, b7, b8, b9, b10, b11, b12, b13, b14, b15, x55, x58, x59, rfl, rfl, hF⟩
     ·obtain rfl : b4 = false := ready_self hr
      obtain rfl : b3 = true := ready_dep hr 3 (by kernel_rfl)
      refine st_val rfl (by kernel_rfl) (some 53) rfl (.pointer (some ⟨g7, 0, none⟩)) V (by kernel_rfl) ?_
      exact ⟨b0, b1, b2, true, true, b5, b6, b7, b8, b9, b10, b11, b12, b13, b14, b15, x55, x58, x59, rfl, rfl, hF⟩
     ·obtain rfl : b5 = false := ready_self hr
      obtain rfl : b4 = true := ready_dep hr 4 (by kernel_rfl)
      obtain rfl : b3 = true := ready_dep hr 3 (by kernel_rfl)
      refine st_load rfl (by kernel_rfl) (some 54) rfl 9 (.tmp 53) rfl ⟨g7, 0, none⟩ (.string x.1) (by kernel_rfl) (hF.bx.load (i := 0) rfl (by kernel_rfl)) ?_
      exact ⟨b0, b1, b2, true, true, true, b6, b7, b8, b9, b10, b11, b12, b13, b14, b15, x55, x58, x59, rfl, rfl, hF⟩
     ·obtain rfl : b6 = false := ready_self hr
      obtain rfl : b5 = true := ready_dep hr 5 (by kernel_rfl)
      obtain rfl : b3 = true := ready_dep hr 3 (by kernel_rfl)
      refine st_call rfl (by kernel_rfl) (some 55) rfl 24 #[.slice none 0 0, .int .i64 1, .string x.1] (by kernel_rfl) ((CT V (Nat.le_trans HWR.out hF.lt) hF.lt).mono ?_)
      rintro e V2 ⟨v, qs, rfl, hq, hr, hb⟩
      exact ⟨v, rfl, b0, b1, b2, true, b4, true, true, b7, b8, b9, b10, b11, b12, b13, b14, b15, v, x58, x59, rfl, rfl, hF.s6 hg2l hg7l hr (by simpa using hq) hb⟩
     ·obtain rfl : b7 = false := ready_self hr
      obtain rfl : b3 = true := ready_dep hr 3 (by kernel_rfl)
      refine st_val rfl (by kernel_rfl) (some 56) rfl (.pointer (some ⟨g7, 1, none⟩)) V (by kernel_rfl) ?_
      exact ⟨b0, b1, b2, true, b4, b5, b6, true, b8, b9, b10, b11, b12, b13, b14, b15, x55, x58, x59, rfl, rfl, hF⟩
     ·obtain rfl : b8 = false := ready_self hr
      obtain rfl : b7 = true := ready_dep hr 7 (by kernel_rfl)
      obtain rfl : b3 = true := ready_dep hr 3 (by kernel_rfl)
      refine st_load rfl (by kernel_rfl) (some 57) rfl 22 (.tmp 56) rfl ⟨g7, 1, none⟩ (.int .u64 x.2) (by kernel_rfl) (hF.bx.load (i := 1) rfl (by kernel_rfl)) ?_
      exact ⟨b0, b1, b2, true, b4, b5, b6, true, true, b9, b10, b11, b12, b13, b14, b15, x55, x58, x59, rfl, rfl, hF⟩
     ·obtain rfl : b9 = false := ready_self hr
      obtain rfl : b6 = true := ready_dep hr 6 (by kernel_rfl)
      obtain rfl : b8 = true := ready_dep hr 8 (by kernel_rfl)
      obtain rfl : b3 = true := ready_dep hr 3 (by kernel_rfl)
      obtain ⟨q55, hr55, hq55⟩ := hF.r55 rfl rfl
      refine st_call rfl (by kernel_rfl) (some 58) rfl 25 #[x55, .int .i64 2, .int .u64 x.2] (by kernel_rfl) ((CN V x55 q55 hF.lt hr55 hq55).mono ?_)
      rintro e V2 ⟨v, qs, rfl, hq, hr, hb⟩
      exact ⟨v, rfl, b0, b1, b2, true, b4, b5, true, b7, true, true, b10, b11, b12, b13, b14, b15, x55, v, x59, rfl, rfl, hF.s9 hg2l hg7l hr (by rw [hq, hq55]; rfl) hb⟩
     ·obtain rfl : b10 = false := ready_self hr
      obtain rfl : b9 = true := ready_dep hr 9 (by kernel_rfl)
      obtain rfl : b3 = true := ready_dep hr 3 (by kernel_rfl)
      obtain ⟨q58, hr58, hq58⟩ := hF.r58 rfl rfl
      refine st_call rfl (by kernel_rfl) (some 59) rfl 26 #[x58] (by kernel_rfl) ((CM V x58 q58 hF.lt hr58 hq58).mono ?_)
      rintro e V2 ⟨v, rfl, hO, hb⟩
      exact ⟨v, rfl, b0, b1, b2, true, b4, b5, b6, b7, b8, true, true, b11, b12, b13, b14, b15, x55, x58, v, rfl, rfl, hF.s10 hg2l hg7l hO hb⟩
     ·obtain rfl : b11 = false := ready_self hr
      obtain rfl : b3 = true := ready_dep hr 3 (by kernel_rfl)
      refine st_val rfl (by kernel_rfl) (some 60) rfl (.slice a L.length c) V (by kernel_rfl) ?_
      exact ⟨b0, b1, b2, true, b4, b5, b6, b7, b8, b9, b10, true, b12, b13, b14, b15, x55, x58, x59, rfl, rfl, hF⟩
     ·obtain rfl : b12 = false := ready_self hr
      obtain rfl : b10 = true := ready_dep hr 10 (by kernel_rfl)
      obtain rfl : b11 = true := ready_dep hr 11 (by kernel_rfl)
      obtain rfl : b3 = true := ready_dep hr 3 (by kernel_rfl)
      refine st_call rfl (by kernel_rfl) (some 61) rfl 38 #[x59, .slice a L.length c] (by kernel_rfl) ((CS V x59 hF.but (hF.r59 rfl)).mono ?_)
      rintro e V2 ⟨rfl, rfl⟩
      exact ⟨_, rfl, b0, b1, b2, true, b4, b5, b6, b7, b8, b9, true, true, true, b13, b14, b15, x55, x58, x59, rfl, rfl, hF⟩
     ·obtain rfl : b13 = false := ready_self hr
      obtain rfl : b3 = true := ready_dep hr 3 (by kernel_rfl)
      obtain rfl : b12 = true := ready_dep hr 12 (by kernel_rfl)
      refine st_val rfl (by kernel_rfl) (some 62) rfl (.bool tb) V (by kernel_rfl) ?_
      exact ⟨b0, b1, b2, true, b4, b5, b6, b7, b8, b9, b10, b11, true, true, b14, b15, x55, x58, x59, rfl, rfl, hF⟩
     ·obtain rfl : b14 = false := ready_self hr
      obtain rfl : b0 = true := ready_dep hr 0 (by kernel_rfl)
      obtain ⟨hst, hF2⟩ := hF.s14 hg2l hne
      refine st_storeA rfl (by kernel_rfl) rfl 35 (.tmp 2) (.tmp 49) rfl _ _ (by kernel_rfl) (by kernel_rfl) _ hst ?_
      exact ⟨true, b1, b2, b3, b4, b5, b6, b7, b8, b9, b10, b11, b12, b13, true, b15, x55, x58, x59, rfl, rfl, hF2⟩
     ·obtain rfl : b15 = false := ready_self hr
      obtain rfl : b13 = true := ready_dep hr 13 (by kernel_rfl)
      refine st_val rfl (by kernel_rfl) (some 3) rfl (.bool tb) V (by kernel_rfl) ?_
      exact ⟨b0, b1, b2, b3, b4, b5, b6, b7, b8, b9, b10, b11, b12, true, b14, true, x55, x58, x59, rfl, rfl, hF⟩
    ·intro act9 V hJ
     obtain ⟨b0, b1, b2, b3, b4, b5, b6, b7, b8, b9, b10, b11, b12, b13, b14, b15, x55, x58, x59, he, rfl, hF⟩ := hJ
     have he : (#[true, true, true, true, true, true, true, true, true, true, true, true, true, true, true, true] : Array Bool) = #[b0, b1, b2, b3, b4, b5, b6, b7, b8, b9, b10, b11, b12, b13, b14, b15] := he
     simp only [Array.mk.injEq, List.cons.injEq, and_true] at he
     obtain ⟨rfl, rfl, rfl, rfl, rfl, rfl, rfl, rfl, rfl, rfl, rfl, rfl, rfl, rfl, rfl, rfl⟩ := he
     simp only [cond_true]
     have HBV := Lib.hid (HB9.out.trans (hF.but.1.mono HG2.out))
     have hZ := hF.bd rfl
     have HE := Lib.hid (HTO.out V x tb HBV.out HRT.out)
     clear hF h0 CT CN CM CS HTO HRS HRT HBV HB9
     go_wp2_with fail
     exact bodyPost_ret (results_c (p := 2) (q := 3) rfl (by kernel_rfl) (load_tfb hZ) rfl) rfl HE.out
   ·skip
    have HRT : Hid (RR = none) := Lib.hid (by rw [HRS.out, if_neg (fun q => he q.1)])
    have h0 : KR wr g2 g7 x false false false false undef undef undef wr.drew := ⟨(fun h => nomatch h), (fun h => nomatch h), ⟨(Below.refl _ _).drew, fun k hk _ => rfl⟩, hX7, fun _ => hX2, (fun h => nomatch h), (fun h => nomatch h), (fun h => nomatch h), (fun h => nomatch h)⟩
    clear hX7 hX2
    refine wp_region_inv (fun listed act9 V => ∃ b0 b1 b2 b3 b4 b5 b6 b7 b8 b9 b10 b11 b12 b13 b14 b15 : Bool, listed = #[b0, b1, b2, b3, b4, b5, b6, b7, b8, b9, b10, b11, b12, b13, b14, b15] ∧ act9 = { tmps := #[.slice a L.length c, undef, .pointer (some ⟨g2, 0, none⟩), (cond b15 (.bool false) (u3)), .slice a5 n c5, .int .i64 n5, .int .i64 e5, .pointer (some ⟨g7, 0, none⟩), undef, u9, .tuple #[.slice a5 n c5, .int .i64 n5, .int .i64 e5], .slice a L.length c, .tuple #[.slice a5 n c5, .int .i64 n5, .int .i64 e5], .slice a5 n c5, .int .i64 n5, .int .i64 e5, .slice a5 n c5, .int .i64 n, .int .i64 j, .bool false, u20, u21, u22, u23, u24, u25, u26, u27, u28, u29, u30, u31, u32, u33, u34, u35, u36, u37, u38, u39, u40, u41, u42, u43, u44, u45, u46, u47, u48, (cond b0 (.agg (tfA x)) undef), (cond b1 (.int .i64 e5) undef), (cond b2 (.bool false) undef), (cond b3 (.bool false) undef), (cond b4 (undef) undef), (cond b5 (undef) undef), (cond b6 (undef) undef), (cond b7 (undef) undef), (cond b8 (undef) undef), (cond b9 (undef) undef), (cond b10 (undef) undef), (cond b11 (undef) undef), (cond b12 (undef) undef), (cond b13 (.bool false) undef)], defers := [] } ∧ KR wr g2 g7 x false false false b14 undef undef undef V) (by kernel_rfl) (by kernel_rfl) ?_ ?_ ?_
    ·exact ⟨false, false, false, false, false, false, false, false, false, false, false, false, false, false, false, false, rfl, rfl, h0⟩
    ·intro i9 listed act9 V hi9 hr hJ
     obtain ⟨b0, b1, b2, b3, b4, b5, b6, b7, b8, b9, b10, b11, b12, b13, b14, b15, rfl, rfl, hF⟩ := hJ
     have hi2 : i9 < 16 := hi9
     have hi3 : i9 = 0 ∨ i9 = 1 ∨ i9 = 2 ∨ i9 = 3 ∨ i9 = 4 ∨ i9 = 5 ∨ i9 = 6 ∨ i9 = 7 ∨ i9 = 8 ∨ i9 = 9 ∨ i9 = 10 ∨ i9 = 11 ∨ i9 = 12 ∨ i9 = 13 ∨ i9 = 14 ∨ i9 = 15 := by omega
     rcases hi3 with rfl | rfl | rfl | rfl | rfl | rfl | rfl | rfl | rfl | rfl | rfl | rfl | rfl | rfl | rfl | rfl
     ·obtain rfl : b0 = false := ready_self hr
      refine st_load rfl (by kernel_rfl) (some 49) rfl 35 (.tmp 7) rfl ⟨g7, 0, none⟩ (.agg (tfA x)) (by kernel_rfl) (load_tfb hF.bx) ?_
      exact ⟨true, b1, b2, b3, b4, b5, b6, b7, b8, b9, b10, b11, b12, b13, b14, b15, rfl, rfl, hF⟩
     ·obtain rfl : b1 = false := ready_self hr
      refine st_val rfl (by kernel_rfl) (some 50) rfl (.int .i64 e5) V (by kernel_rfl) ?_
      exact ⟨b0, true, b2, b3, b4, b5, b6, b7, b8, b9, b10, b11, b12, b13, b14, b15, rfl, rfl, hF⟩
     ·obtain rfl : b2 = false := ready_self hr
      obtain rfl : b1 = true := ready_dep hr 1 (by kernel_rfl)
      refine st_val rfl (by kernel_rfl) (some 51) rfl (.bool false) V (eql_e rfl e5 0 (decide_eq_false he) (by kernel_rfl) (by kernel_rfl) _) ?_
      exact ⟨b0, true, true, b3, b4, b5, b6, b7, b8, b9, b10, b11, b12, b13, b14, b15, rfl, rfl, hF⟩
     ·obtain rfl : b3 = false := ready_self hr
      obtain rfl : b2 = true := ready_dep hr 2 (by kernel_rfl)
      refine st_val rfl (by kernel_rfl) (some 52) rfl (.bool false) V (by kernel_rfl) ?_
      exact ⟨b0, b1, true, true, b4, b5, b6, b7, b8, b9, b10, b11, b12, b13, b14, b15, rfl, rfl, hF⟩
     ·obtain rfl : b4 = false := ready_self hr
      obtain rfl : b3 = true := ready_dep hr 3 (by kernel_rfl)
      refine st_not rfl (by kernel_rfl) ?_
      exact ⟨b0, b1, b2, true, true, b5, b6, b7, b8, b9, b10, b11, b12, b13, b14, b15, rfl, rfl, hF⟩
     ·obtain rfl : b5 = false := ready_self hr
      obtain rfl : b3 = true := ready_dep hr 3 (by kernel_rfl)
      refine st_not rfl (by kernel_rfl) ?_
      exact ⟨b0, b1, b2, true, b4, true, b6, b7, b8, b9, b10, b11, b12, b13, b14, b15, rfl, rfl, hF⟩
     ·obtain rfl : b6 = false := ready_self hr
      obtain rfl : b3 = true := ready_dep hr 3 (by kernel_rfl)
      refine st_not rfl (by kernel_rfl) ?_
      exact ⟨b0, b1, b2, true, b4, b5, true, b7, b8, b9, b10, b11, b12, b13, b14, b15, rfl, rfl, hF⟩
     ·obtain rfl : b7 = false := ready_self hr
      obtain rfl : b3 = true := ready_dep hr 3 (by kernel_rfl)
      refine st_not rfl (by kernel_rfl) ?_
      exact ⟨b0, b1, b2, true, b4, b5, b6, true, b8, b9, b10, b11, b12, b13, b14, b15, rfl, rfl, hF⟩
     ·obtain rfl : b8 = false := ready_self hr
      obtain rfl : b3 = true := ready_dep hr 3 (by kernel_rfl)
      refine st_not rfl (by kernel_rfl) ?_
      exact ⟨b0, b1, b2, true, b4, b5, b6, b7, true, b9, b10, b11, b12, b13, b14, b15, rfl, rfl, hF⟩
     ·obtain rfl : b9 = false := ready_self hr
      obtain rfl : b3 = true := ready_dep hr 3 (by kernel_rfl)
      refine st_not rfl (by kernel_rfl) ?_
      exact ⟨b0, b1, b2, true, b4, b5, b6, b7, b8, true, b10, b11, b12, b13, b14, b15, rfl, rfl, hF⟩
     ·obtain rfl : b10 = false := ready_self hr
      obtain rfl : b3 = true := ready_dep hr 3 (by kernel_rfl)
      refine st_not rfl (by kernel_rfl) ?_
      exact ⟨b0, b1, b2, true, b4, b5, b6, b7, b8, b9, true, b11, b12, b13, b14, b15, rfl, rfl, hF⟩
     ·obtain rfl : b11 = false := ready_self hr
      obtain rfl : b3 = true := ready_dep hr 3 (by kernel_rfl)
      refine st_not rfl (by kernel_rfl) ?_
      exact ⟨b0, b1, b2, true, b4, b5, b6, b7, b8, b9, b10, true, b12, b13, b14, b15, rfl, rfl, hF⟩
     ·obtain rfl : b12 = false := ready_self hr
      obtain rfl : b3 = true := ready_dep hr 3 (by kernel_rfl)
      refine st_not rfl (by kernel_rfl) ?_
      exact ⟨b0, b1, b2, true, b4, b5, b6, b7, b8, b9, b10, b11, true, b13, b14, b15, rfl, rfl, hF⟩
     ·obtain rfl : b13 = false := ready_self hr
      obtain rfl : b3 = true := ready_dep hr 3 (by kernel_rfl)
      refine st_val rfl (by kernel_rfl) (some 62) rfl (.bool false) V (by kernel_rfl) ?_
      exact ⟨b0, b1, b2, true, b4, b5, b6, b7, b8, b9, b10, b11, b12, true, b14, b15, rfl, rfl, hF⟩
     ·obtain rfl : b14 = false := ready_self hr
      obtain rfl : b0 = true := ready_dep hr 0 (by kernel_rfl)
      obtain ⟨hst, hF2⟩ := hF.s14 hg2l hne
      refine st_storeA rfl (by kernel_rfl) rfl 35 (.tmp 2) (.tmp 49) rfl _ _ (by kernel_rfl) (by kernel_rfl) _ hst ?_
      exact ⟨true, b1, b2, b3, b4, b5, b6, b7, b8, b9, b10, b11, b12, b13, true, b15, rfl, rfl, hF2⟩
     ·obtain rfl : b15 = false := ready_self hr
      obtain rfl : b13 = true := ready_dep hr 13 (by kernel_rfl)
      refine st_val rfl (by kernel_rfl) (some 3) rfl (.bool false) V (by kernel_rfl) ?_
      exact ⟨b0, b1, b2, b3, b4, b5, b6, b7, b8, b9, b10, b11, b12, true, b14, true, rfl, rfl, hF⟩
    ·intro act9 V hJ
     obtain ⟨b0, b1, b2, b3, b4, b5, b6, b7, b8, b9, b10, b11, b12, b13, b14, b15, he, rfl, hF⟩ := hJ
     have he : (#[true, true, true, true, true, true, true, true, true, true, true, true, true, true, true, true] : Array Bool) = #[b0, b1, b2, b3, b4, b5, b6, b7, b8, b9, b10, b11, b12, b13, b14, b15] := he
     simp only [Array.mk.injEq, List.cons.injEq, and_true] at he
     obtain ⟨rfl, rfl, rfl, rfl, rfl, rfl, rfl, rfl, rfl, rfl, rfl, rfl, rfl, rfl, rfl, rfl⟩ := he
     simp only [cond_true]
     have HBV := Lib.hid (HB9.out.trans (hF.but.1.mono HG2.out))
     have hZ := hF.bd rfl
     have HE := Lib.hid (HTO.out V x false HBV.out HRT.out)
     clear hF h0 HTO HRS HRT HBV HB9
     go_wp2_with fail
     exact bodyPost_ret (results_c (p := 2) (q := 3) rfl (by kernel_rfl) (load_tfb hZ) rfl) rfl HE.out
end Go.Proofs.Ytglglhcnofbagaa
