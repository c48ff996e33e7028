/-
  mempoolmake's Tx: contract. Comparisons of strings.
-/
import Derived.Test.YtglglhcnofbagaaGreatK15
import Derived.Deep.DeepCutAuto
import Derived.Lib.ConvBytes
import Derived.Lib.Bytealg
namespace Go.Proofs.YtglglhcnofbagaaGreat
attribute [local irreducible] wpList wpQuiet
open Go.RowKit
set_option linter.unusedSimpArgs false
set_option linter.unusedVariables false

section
variable {w : World} {g : Nat} {a : Option Addr} {c : Nat} {L : List Int} {N g4 g6 g7 : Nat} {ra : Option Addr} {rc : Nat} {A : List Ac} {co : Int} {B7 : Nat} {x : Txd} {a2 : Option Addr} {c2 : Nat} {V : World}
theorem st_drew (h : St w g a c L N g4 g6 g7 ra rc A co B7 x a2 c2 V) : St w g a c L N g4 g6 g7 ra rc A co B7 x a2 c2 V.drew := ⟨⟨h.bt.1.drew, h.bt.2⟩, h.ns, h.row, h.b4, h.b6, h.b7, h.rt, h.sz⟩
theorem rowT_off {V2 : World} {B q : Nat} {v : Value} {M : List Tf} (h : RowT V B v M) (hb : But q V V2) (hne : v.ownBlock ≠ some q) : RowT V2 B v M := by
 unfold RowT at *
 refine ⟨h.1, ?_⟩
 rcases h.2 with h0 | ⟨gg, cap, cur, ev, h1, h2, h3⟩
 ·exact .inl h0
 ·have hgq : gg ≠ q := fun e => hne (by rw [ev, ← e]; rfl)
  exact .inr ⟨gg, cap, cur, ev, h1, (hb.2 gg (Array.getElem?_eq_some_iff.1 h2).1 hgq).trans h2, h3⟩
theorem St.off (h : St w g a c L N g4 g6 g7 ra rc A co B7 x a2 c2 V) (ly : Ly w g a L g4 g6 g7 ra A B7) {V2 : World} {q : Nat} (hb : But q V V2) (hq : w.heap.size ≤ q) (hB : B7 ≤ q) (hne : (Value.slice a2 x.tr.length c2).ownBlock ≠ some q) : St w g a c L N g4 g6 g7 ra rc A co B7 x a2 c2 V2 :=
 have l4 := ly.l4
 have l6 := ly.l6
 have l7 := ly.l7
 have lg := ly.hg
 ⟨but_at h.bt hb hq (by omega), h.ns.but hb (by omega) (fun hl z hz => by have := ly.ab hl z hz; omega), cs_same h.row hb.1.size (fun hn z hz => hb.2 _ (Nat.lt_of_lt_of_le (ly.rb hn z hz).1 h.bt.1.size) (by have := (ly.rb hn z hz).1; omega)), h.b4.but hb (by omega), h.b6.but hb (by omega), h.b7.but hb (by omega), rowT_off h.rt hb hne, Nat.le_trans h.sz hb.1.size⟩
theorem St.grow (h : St w g a c L N g4 g6 g7 ra rc A co B7 x a2 c2 V) (ly : Ly w g a L g4 g6 g7 ra A B7) (hw : w.heap.size ≤ B7) {V2 : World} {y : Tf} {a7 : Option Addr} {c7 : Nat} (hb : Below B7 V V2) (hr : RowT V2 B7 (.slice a7 (x.tr ++ [y]).length c7) (x.tr ++ [y])) : ∃ V3, (Instr.storeAt 44 (.pointer (some ⟨g7, 5, none⟩)) (.slice a7 (x.tr ++ [y]).length c7)).run Tryz.prog V2 = .ok () V3 ∧ St w g a c L N g4 g6 g7 ra rc A co B7 { x with tr := x.tr ++ [y] } a7 c7 V3 := by
 obtain ⟨f1, f2, f3, f4, f5, f6, f7⟩ := h.far ly hw hb
 obtain ⟨V3, hst, hX, -, hbt⟩ := st_cell (i := 5) (ty := 44) (v := .slice a7 (x.tr ++ [y]).length c7) (cs' := txA { x with tr := x.tr ++ [y] } a7 c7) (w0 := V2) (B := g7) f6 (Below.refl _ _) (Nat.le_refl _) (by show 5 < 6; decide) rfl (by kernel_rfl) rfl
 have lg := ly.hg
 have h7 := ly.h7
 exact ⟨V3, hst, but_at f1 hbt h7 (by omega), f2.but hbt (by omega) (fun hl z hz => Nat.lt_of_lt_of_le (ly.ab hl z hz) h7), cs_same f3 hbt.1.size (fun hn z hz => hbt.2 _ (Nat.lt_of_lt_of_le (ly.rb hn z hz).1 f1.1.size) (by have := (ly.rb hn z hz).1; omega)), f4.but hbt ly.n47, f5.but hbt ly.n67, hX, hr.but hbt ly.l7, Nat.le_trans f7 hbt.1.size⟩
end
set_option maxRecDepth 100000 in
set_option maxHeartbeats 8000000 in
theorem mk_tx {w : World} {g c k rc : Nat} {a ra : Option Addr} {L : List Int} {A : List Ac} {co p : Int} (h : NS w g a c L k) (hl : L.length ≤ 100000) (hk : k ≤ 10000) (hrow : Cs w ra (acc A)) (hrg : acc A ≠ [] → ∀ x, ra = some x → x.block ≠ g) (hA : ∀ x, x ∈ A → AcQ x) (hA4 : A.length ≤ 1000) : Calls Tryz.prog 14 #[.pointer (some ⟨g, 0, none⟩), .agg #[.slice ra A.length rc, .int .u64 co], .int .u64 p] w (TxMO w g a c L k) := by
 have HL := Lib.hid hl
 have HKK := Lib.hid hk
 have HQ := Lib.hid hA
 have HA4 := Lib.hid hA4
 have HGW := Lib.hid h.lt
 have HAB := Lib.hid (fun h1 x hx => h.ab h1 x hx)
 have HRB : Hid (acc A ≠ [] → ∀ x, ra = some x → x.block < w.heap.size ∧ x.block ≠ g) := Lib.hid fun hn x hx => ⟨by
  obtain ⟨b, off, e, hb, -⟩ := hrow 0 ((acc A)[0]'(List.length_pos_iff.2 hn)) (List.getElem?_eq_getElem _)
  rw [hx] at e
  cases e
  exact hb, hrg hn x hx⟩
 have hb1 : Below w.heap.size w (w.alloc (.cells #[.slice ra A.length rc, .int .u64 co] 25)) := (Below.refl _ w).alloc (Nat.le_refl _) _
 have hX1 : Bx (w.alloc (.cells #[.slice ra A.length rc, .int .u64 co] 25)) w.heap.size #[.slice ra A.length rc, .int .u64 co] 25 := heap_alloc_last w _
 have hsz1 : (w.alloc (.cells #[.slice ra A.length rc, .int .u64 co] 25)).heap.size = w.heap.size + 1 := by simp
 obtain ⟨n, hn⟩ : ∃ n, A.length = n := ⟨_, rfl⟩
 have HN := Lib.hid hn
 rw [hn] at hb1 hX1 hsz1 ⊢
 clear hl hk hA hA4 hrg hn
 go_enter Tryz.func14, Tryz.ntmps14
 go_upto_region 1 with fail
 change Code.wp _ _ _ _ ((w.alloc (.cells #[.slice ra n rc, .int .u64 co] 25)).alloc (.cells (txA zX none 0) 46))
 generalize w.alloc (.cells #[.slice ra n rc, .int .u64 co] 25) = W1 at *
 have hb0 : Below w.heap.size w (W1.alloc (.cells (txA zX none 0) 46)) := hb1.alloc hb1.size _
 have hX0 : Bx (W1.alloc (.cells (txA zX none 0) 46)) w.heap.size #[.slice ra n rc, .int .u64 co] 25 := hX1.below hX1.lt ((Below.refl _ W1).alloc (Nat.le_refl _) _)
 have hY0 : Bx (W1.alloc (.cells (txA zX none 0) 46)) W1.heap.size (txA zX none 0) 46 := heap_alloc_last W1 _
 rw [hsz1] at hY0
 generalize W1.alloc (.cells (txA zX none 0) 46) = W at *
 obtain ⟨g4, hg4⟩ : ∃ g4, w.heap.size = g4 := ⟨_, rfl⟩
 obtain ⟨g6, hg6⟩ : ∃ g6, w.heap.size + 1 = g6 := ⟨_, rfl⟩
 have HG46 : Hid (w.heap.size ≤ g4 ∧ w.heap.size ≤ g6 ∧ g4 ≠ g6) := Lib.hid ⟨by omega, by omega, by omega⟩
 rw [hg6] at hY0
 rw [hg4] at hX0
 rw [hg6, hg4]
 have hrW := hrow.below hb0
 have hnW := h.below hb0
 have HBW := Lib.hid (But.of_below hb0 (Nat.le_of_lt HGW.out))
 have CN := mk_name hnW HL.out (by have := HKK.out; omega)
 clear hb0 hb1 hX1 hsz1 hg4 hg6 hrow h
 refine wl <| gz1 (.pointer (some ⟨g, 0, none⟩)) <| gze (fun v w' => ∃ s, v = .string s ∧ NmQ s ∧ NS w' g a c L (k + 1) ∧ But g W w') ((CN).mono fun e w' z => by obtain ⟨s, h1, h2⟩ := z; exact ⟨_, h1, s, rfl, h2⟩) (fun vv V1 hq => ?_)
 obtain ⟨nm, rfl, hqnm, hnsnm, hbutnm⟩ := hq
 simp only [pu]
 refine gz1 (.pointer (some ⟨g, 0, none⟩)) <|
  gze (fun v w' => ∃ q : Nat, v = .int .i64 q ∧ (q : Int) < 6 ∧ NS w' g a c L ((k + 1) + 1) ∧ But g V1 w') ((ns_next hnsnm HL.out (by have := HKK.out; omega) 6 (by decide) (by decide)).mono fun e w' z => by obtain ⟨q, h1, h2⟩ := z; exact ⟨_, h1, q, rfl, h2⟩) (fun vv V2 hq => ?_)
 obtain ⟨v2, rfl, hv2, hns2, hbut2⟩ := hq
 simp only [pu]
 refine gzv (.int .u64 v2) (conv_iu rfl v2 (by omega) (by omega) (by kernel_rfl) _) <| gzw (.int .u64 (v2 * 40)) (mul_us rfl v2 40 (by omega) (by omega)) <|
  gzw (.int .u64 (150 + v2 * 40)) (add_us rfl 150 (v2 * 40) (by omega) (by omega)) <| gz1 (.pointer (some ⟨g, 0, none⟩)) <|
  gze (fun v w' => ∃ s, v = .string s ∧ MmQ s ∧ NS w' g a c L ((k + 1 + 1) + 1) ∧ But g V2 w') ((mk_memo hns2 HL.out (by have := HKK.out; omega)).mono fun e w' z => by obtain ⟨s, h1, h2⟩ := z; exact ⟨_, h1, s, rfl, h2⟩) (fun vv V3 hq => ?_)
 obtain ⟨mm, rfl, hqmm, hnsmm, hbutmm⟩ := hq
 obtain ⟨V4, hst4, hb4, hbx4⟩ := new_txv V3 ⟨nm, 0, 150 + v2 * 40, 0, mm, []⟩ none 0
 simp only [pu]
 refine gz1 (.agg #[.string nm, .int .u64 0, .int .u64 (150 + v2 * 40), .int .u64 0, .string mm, .slice none 0 0]) ?_
 simp only [pu]
 refine run_to rfl (some 7) rfl (.pointer (some ⟨V3.heap.size, 0, none⟩)) (V3.alloc (.cells (txA zX none 0) 46)) (by kernel_rfl) ?_
 simp only [pu]
 refine gzs rfl (hst4) <| wn ?_
 have hbt := (hbutnm.trans hbut2).trans hbutmm
 have hbw4 := But.of_below hb4 (Nat.le_of_lt hnsmm.lt)
 obtain ⟨N0, hN0, hns0⟩ := hnsmm.below hb4
 obtain ⟨g7, hg7⟩ : ∃ g7, V3.heap.size = g7 := ⟨_, rfl⟩
 obtain ⟨B7, hB7⟩ : ∃ B7, V4.heap.size = B7 := ⟨_, rfl⟩
 rw [hg7] at hbx4 ⊢
 have hbx4l := hbx4.lt
 have hX3 := hX0.but hbt (by have := HGW.out; have := HG46.out; omega)
 have hY3 := hY0.but hbt (by have := HGW.out; have := HG46.out; omega)
 have hX3l := hX3.lt
 have hY3l := hY3.lt
 have hbw0 := HBW.out.trans hbt
 have hws := hbw0.1.size
 have hb4s := hb4.size
 have LY : Ly w g a L g4 g6 g7 ra A B7 := ⟨HGW.out, HG46.out.1, HG46.out.2.1, by omega, HG46.out.2.2, by omega, by omega, by omega, by omega, by omega, HAB.out, HRB.out⟩
 have HLY := Lib.hid LY
 have hrow3 := cs_same hrW hbt.1.size (fun hn y hy => hbt.2 _ (Nat.lt_of_lt_of_le (HRB.out hn y hy).1 HBW.out.1.size) (HRB.out hn y hy).2)
 have HS0 : Hid (St w g a c L N0 g4 g6 g7 ra rc A co B7 ⟨nm, 0, 150 + v2 * 40, 0, mm, []⟩ none 0 V4) := Lib.hid ⟨hbw0.trans hbw4, hns0, hrow3.below hb4, by rw [HN.out]; exact hX3.below hX3l hb4, hY3.below hY3l hb4, hbx4, RowT.nil _ _, Nat.le_of_eq hB7.symm⟩
 have HWB : Hid (w.heap.size ≤ B7) := Lib.hid (by omega)
 have HGAS : Hid (150 ≤ (150 + (v2 : Int) * 40) ∧ (150 + (v2 : Int) * 40) ≤ 1000) := Lib.hid (by omega)
 have HNM := Lib.hid hqnm
 have HMM := Lib.hid hqmm
 have HN0 : Hid (N0 ≤ k + 3) := Lib.hid hN0
 obtain ⟨gas, hgas⟩ : ∃ gas, 150 + (v2 : Int) * 40 = gas := ⟨_, rfl⟩
 rw [hgas] at HS0 HGAS ⊢
 clear hbt hbw4 hns0 hg7 hB7 hbx4 hbx4l hX3 hY3 hX3l hY3l hbw0 hws hb4s LY hrow3 hb4 hst4 hX0 hY0 hrW hnW HBW CN hbutnm hbut2 hbutmm hnsmm hns2 hnsnm hqnm hqmm hN0 hv2 hgas
 go_upto_region 2 with fail
 refine wl <| gz1 (.pointer (some ⟨g4, 0, none⟩)) <| gzl rfl ⟨g4, 0, none⟩ (.slice ra n rc) ((by have := HS0.out.b4; rw [HN.out] at this; exact this.load (i := 0) rfl (by kernel_rfl))) <| gz2 (.int .i64 n) (.int .i64 n) <| wn ?_
 simp only [pu]
 go_upto_region 3 with fail
 go_cut [31] (fun s31 wx => ∃ (N1 : Nat) (tb : Bool), s31 = .bool tb ∧ Hid (N1 ≤ k + 4) ∧ Hid (St w g a c L N1 g4 g6 g7 ra rc A co B7 ⟨nm, 0, gas, 0, mm, []⟩ none 0 wx) ∧ Hid (tb = true → 0 < n))
 case first =>
  by_cases hn0 : 0 < n
  ·skip
   obtain ⟨v8, hpv8, hv8⟩ := pl_nat L N0 8 (by decide)
   have CX8 := nsn_next HS0.out.ns HL.out (by have := HKK.out; have := HN0.out; omega) 8 (by decide) (by decide) hpv8
   by_cases hv0 : 0 < v8
   ·skip
    refine wl <| gz1 (.int .i64 n) <| gzb (gtr_n rfl (n) (0) dT) <| gz2 (.bool true) (.pointer (some ⟨g, 0, none⟩)) <| gzc (.int .i64 v8) (fun w' => NSn w' g a c L (N0 + 1) ∧ But g V4 w') CX8 (fun V5 hq8 => ?_)
    have HS1 := Lib.hid (HS0.out.call HLY.out hq8.1 hq8.2)
    simp only [pu]
    refine gzb (gtr_n rfl (v8) (0) dT) <| gz1 (.bool true) <| wn ?_
    simp only [pu]
    clear hq8 CX8 HS0
    go_wp2_with fail
    go_meet
    exact ⟨N0 + 1, true, rfl, Lib.hid (by have := HN0.out; omega), HS1, Lib.hid (fun _ => hn0)⟩
   ·skip
    refine wl <| gz1 (.int .i64 n) <| gzb (gtr_n rfl (n) (0) dT) <| gz2 (.bool true) (.pointer (some ⟨g, 0, none⟩)) <| gzc (.int .i64 v8) (fun w' => NSn w' g a c L (N0 + 1) ∧ But g V4 w') CX8 (fun V5 hq8 => ?_)
    have HS1 := Lib.hid (HS0.out.call HLY.out hq8.1 hq8.2)
    simp only [pu]
    refine gzb (gtr_n rfl (v8) (0) dF) <| gz1 (.bool false) <| wn ?_
    simp only [pu]
    clear hq8 CX8 HS0
    go_wp2_with fail
    go_meet
    exact ⟨N0 + 1, false, rfl, Lib.hid (by have := HN0.out; omega), HS1, Lib.hid (fun _ => hn0)⟩
  ·skip
   refine wl <| gz1 (.int .i64 n) <| gzb (gtr_n rfl (n) (0) dF) <| gz5 (.bool false) undef undef undef (.bool false) <| wn ?_
   simp only [pu]
   go_wp2_with fail
   go_meet
   exact ⟨N0, false, rfl, Lib.hid (by have := HN0.out; omega), HS0, Lib.hid (fun h => nomatch h)⟩
 case rest =>
  obtain ⟨N1, tb, rfl, HN1, HS1, HTB⟩ := hcut
  clear HS0 HN0
  go_upto_if 31 with fail
  go_cut [8] (fun s8 wx => ∃ (N2 : Nat) (nm2 : ByteArray) (sq : Int), s8 = .int .i64 n ∧ Hid (N2 ≤ k + 5) ∧ Hid (NmQ nm2 ∧ W64 sq) ∧ Hid (St w g a c L N2 g4 g6 g7 ra rc A co B7 ⟨nm2, sq, gas, 0, mm, []⟩ none 0 wx))
  case first =>
   cases tb
   ·skip
    go_wp2_with fail
    go_meet
    exact ⟨N1, nm, 0, rfl, Lib.hid (by have := HN1.out; omega), Lib.hid ⟨HNM.out, w64_0⟩, HS1⟩
   ·skip
    have hn0 := HTB.out rfl
    obtain ⟨v9, hpv9, hv9⟩ := pl_nat L N1 n (by omega)
    have hv9n : v9 < n := by omega
    have hyq := HQ.out (aca A v9) (aca_mem (by rw [HN.out]; exact hv9n))
    have hvA : v9 < A.length := by rw [HN.out]; exact hv9n
    obtain ⟨b, off, rfl, -, -⟩ := ac_range HS1.out.row (k := v9) hvA
    have hacr := fun V (hV : Cs V (some ⟨b, off, none⟩) (acc A)) => (by obtain ⟨b2, o2, e2, -, h2⟩ := ac_range hV (k := v9) hvA; simp only [Option.some.injEq, Addr.mk.injEq, and_true] at e2; obtain ⟨rfl, rfl⟩ := e2; exact load_ac h2 : (Instr.loadAt 49 (.pointer (some ⟨b, off + v9 * 3, none⟩))).run Tryz.prog V = .ok (.agg (acA (aca A v9))) V)
    generalize aca A v9 = y at *
    have CX : ∀ V, NSn V g a c L N1 → Calls Tryz.prog 23 #[.pointer (some ⟨g, 0, none⟩), .int .i64 n] V fun e w' => e = .returned (.int .i64 v9) ∧ NSn w' g a c L (N1 + 1) ∧ But g V w' := fun V hV => nsn_next hV HL.out (by have := HKK.out; have := HN1.out; omega) n (by omega) (by have := HA4.out; rw [HN.out] at this; omega) hpv9
    have h0 : K4 w g a c L N1 g4 g6 g7 (some ⟨b, off, none⟩) rc A co B7 ⟨nm, 0, gas, 0, mm, []⟩ wc y false false false undef wc.drew := ⟨(fun h => nomatch h), Nat.le_refl _, st_drew HS1.out, (fun h => nomatch h), (fun h => nomatch h)⟩
    have HWC : Hid (w.heap.size ≤ wc.heap.size ∧ B7 ≤ wc.heap.size ∧ g < wc.heap.size) := Lib.hid ⟨HS1.out.bt.1.size, HS1.out.sz, HS1.out.ns.1.lt⟩
    go_upto_region 4 with fail
    refine wp_region_inv (fun listed act9 V => ∃ b0 b1 b2 b3 b4 b5 b6 b7 b8 : Bool, ∃ x9 : Value, listed = #[b0, b1, b2, b3, b4, b5, b6, b7, b8] ∧ act9 = { tmps := #[.pointer (some ⟨g, 0, none⟩), .agg #[.slice (some ⟨b, off, none⟩) n rc, .int .u64 co], .int .u64 p, undef, .pointer (some ⟨g4, 0, none⟩), undef, .pointer (some ⟨g6, 0, none⟩), .pointer (some ⟨g7, 0, none⟩), .int .i64 n, x9, undef, undef, u12, u13, u14, u15, u16, u17, u18, u19, u20, u21, u22, u23, u24, u25, u26, u27, u28, u29, u30, .bool true, (cond b0 (.pointer (some ⟨g4, 0, none⟩)) (u32)), (cond b1 (.slice (some ⟨b, off, none⟩) n rc) (u33)), (cond b2 (.pointer (some ⟨g, 0, none⟩)) (u34)), (cond b3 (.int .i64 n) (u35)), (cond b4 (.int .i64 v9) (u36)), (cond b5 (.pointer (some ⟨b, off + v9 * 3, none⟩)) (u37)), (cond b6 (.agg (acA y)) (u38)), u39, u40, u41, u42, u43, u44, u45, u46, u47, u48, u49, u50, u51, u52, u53, u54, u55, u56, u57, u58, u59, u60, u61, u62, u63, u64, u65, u66, u67, u68, u69, u70, u71, u72, u73, u74, u75, u76, u77, u78, u79, u80, u81, u82, u83, u84, u85, u86, u87, u88, u89, u90, u91, u92, u93, u94, u95], defers := [] } ∧ K4 w g a c L N1 g4 g6 g7 (some ⟨b, off, none⟩) rc A co B7 ⟨nm, 0, gas, 0, mm, []⟩ wc y b4 b7 b8 x9 V) (by kernel_rfl) (by kernel_rfl) ?_ ?_ ?_
    ·exact ⟨false, false, false, false, false, false, false, false, false, undef, rfl, rfl, h0⟩
    ·intro i9 listed act9 V hi9 hr hJ
     obtain ⟨b0, b1, b2, b3, b4, b5, b6, b7, b8, x9, rfl, rfl, hF⟩ := hJ
     have hi2 : i9 < 9 := hi9
     have hi3 : i9 = 0 ∨ i9 = 1 ∨ i9 = 2 ∨ i9 = 3 ∨ i9 = 4 ∨ i9 = 5 ∨ i9 = 6 ∨ i9 = 7 ∨ i9 = 8 := by omega
     rcases hi3 with rfl | rfl | rfl | rfl | rfl | rfl | rfl | rfl | rfl
     ·obtain rfl : b0 = false := ready_self hr
      refine st_val rfl (by kernel_rfl) (some 32) rfl (.pointer (some ⟨g4, 0, none⟩)) V (by kernel_rfl) ?_
      exact ⟨true, b1, b2, b3, b4, b5, b6, b7, b8, x9, rfl, rfl, hF⟩
     ·obtain rfl : b1 = false := ready_self hr
      obtain rfl : b0 = true := ready_dep hr 0 (by kernel_rfl)
      refine st_load rfl (by kernel_rfl) (some 33) rfl 22 (.tmp 32) rfl ⟨g4, 0, none⟩ (.slice (some ⟨b, off, none⟩) n rc) (by kernel_rfl) (by have := hF.st.b4; rw [HN.out] at this; exact this.load (i := 0) rfl (by kernel_rfl)) ?_
      exact ⟨true, true, b2, b3, b4, b5, b6, b7, b8, x9, rfl, rfl, hF⟩
     ·obtain rfl : b2 = false := ready_self hr
      refine st_val rfl (by kernel_rfl) (some 34) rfl (.pointer (some ⟨g, 0, none⟩)) V (by kernel_rfl) ?_
      exact ⟨b0, b1, true, b3, b4, b5, b6, b7, b8, x9, rfl, rfl, hF⟩
     ·obtain rfl : b3 = false := ready_self hr
      refine st_val rfl (by kernel_rfl) (some 35) rfl (.int .i64 n) V (by kernel_rfl) ?_
      exact ⟨b0, b1, b2, true, b4, b5, b6, b7, b8, x9, rfl, rfl, hF⟩
     ·obtain rfl : b4 = false := ready_self hr
      obtain rfl : b2 = true := ready_dep hr 2 (by kernel_rfl)
      obtain rfl : b3 = true := ready_dep hr 3 (by kernel_rfl)
      refine st_call rfl (by kernel_rfl) (some 36) rfl 23 #[.pointer (some ⟨g, 0, none⟩), .int .i64 n] (by kernel_rfl) ((CX V hF.st.ns).mono ?_)
      rintro e V2 ⟨rfl, hns, hbt⟩
      exact ⟨_, rfl, b0, b1, true, true, true, b5, b6, b7, b8, x9, rfl, rfl, hF.s4 HLY.out HWC.out.2.2 hns hbt⟩
     ·obtain rfl : b5 = false := ready_self hr
      obtain rfl : b1 = true := ready_dep hr 1 (by kernel_rfl)
      obtain rfl : b4 = true := ready_dep hr 4 (by kernel_rfl)
      refine st_val rfl (by kernel_rfl) (some 37) rfl (.pointer (some ⟨b, off + v9 * 3, none⟩)) V (idx_ac b off n rc v9 hv9n _ _ _ rfl (by kernel_rfl) (by kernel_rfl)) ?_
      exact ⟨b0, true, b2, b3, true, true, b6, b7, b8, x9, rfl, rfl, hF⟩
     ·obtain rfl : b6 = false := ready_self hr
      obtain rfl : b5 = true := ready_dep hr 5 (by kernel_rfl)
      refine st_load rfl (by kernel_rfl) (some 38) rfl 49 (.tmp 37) rfl ⟨b, off + v9 * 3, none⟩ (.agg (acA y)) (by kernel_rfl) (hacr V hF.st.row) ?_
      exact ⟨b0, b1, b2, b3, b4, true, true, b7, b8, x9, rfl, rfl, hF⟩
     ·obtain rfl : b7 = false := ready_self hr
      refine st_val rfl (by kernel_rfl) (some 9) rfl (.pointer (some ⟨V.heap.size, 0, none⟩)) (V.alloc (.cells (acA zAc) 49)) (by kernel_rfl) ?_
      exact ⟨b0, b1, b2, b3, b4, b5, b6, true, b8, _, rfl, rfl, hF.s7⟩
     ·obtain rfl : b8 = false := ready_self hr
      obtain rfl : b7 = true := ready_dep hr 7 (by kernel_rfl)
      obtain rfl : b6 = true := ready_dep hr 6 (by kernel_rfl)
      obtain ⟨q, V2, rfl, hst, hF2⟩ := hF.s8 HLY.out HWC.out.1 HWC.out.2.1
      refine st_storeA rfl (by kernel_rfl) rfl 49 (.tmp 9) (.tmp 38) rfl (.pointer (some ⟨q, 0, none⟩)) (.agg (acA y)) (by kernel_rfl) (by kernel_rfl) _ hst ?_
      exact ⟨b0, b1, b2, b3, b4, b5, true, true, true, _, rfl, rfl, hF2⟩
    ·intro act9 V hJ
     obtain ⟨b0, b1, b2, b3, b4, b5, b6, b7, b8, x9, he, rfl, hF⟩ := hJ
     have he : (#[true, true, true, true, true, true, true, true, true] : Array Bool) = #[b0, b1, b2, b3, b4, b5, b6, b7, b8] := he
     simp only [Array.mk.injEq, List.cons.injEq, and_true] at he
     obtain ⟨rfl, rfl, rfl, rfl, rfl, rfl, rfl, rfl, rfl⟩ := he
     simp only [cond_true]
     obtain ⟨q, rfl, hq1, hbx⟩ := hF.d9 rfl
     have hS2 : St w g a c L (N1 + 1) g4 g6 g7 (some ⟨b, off, none⟩) rc A co B7 ⟨nm, 0, gas, 0, mm, []⟩ none 0 V := hF.st
     have h1 : K5 w g a c L (N1 + 1) g4 g6 g7 (some ⟨b, off, none⟩) rc A co B7 ⟨nm, 0, gas, 0, mm, []⟩ y q false false V.drew := ⟨st_drew hS2, hbx⟩
     have hqn : q ≠ g7 := by have := HLY.out.l7; have := HWC.out.2.1; omega
     clear hF h0 CX hacr HS1 hS2 hbx
     go_upto_region 5 with fail
     have h0 := h1
     clear h1
     refine wp_region_inv (fun listed act9 V => ∃ b0 b1 b2 b3 b4 b5 b6 b7 : Bool, listed = #[b0, b1, b2, b3, b4, b5, b6, b7] ∧ act9 = { tmps := #[.pointer (some ⟨g, 0, none⟩), .agg #[.slice (some ⟨b, off, none⟩) n rc, .int .u64 co], .int .u64 p, undef, .pointer (some ⟨g4, 0, none⟩), undef, .pointer (some ⟨g6, 0, none⟩), .pointer (some ⟨g7, 0, none⟩), .int .i64 n, .pointer (some ⟨q, 0, none⟩), undef, undef, u12, u13, u14, u15, u16, u17, u18, u19, u20, u21, u22, u23, u24, u25, u26, u27, u28, u29, u30, .bool true, .pointer (some ⟨g4, 0, none⟩), .slice (some ⟨b, off, none⟩) n rc, .pointer (some ⟨g, 0, none⟩), .int .i64 n, .int .i64 v9, .pointer (some ⟨b, off + v9 * 3, none⟩), .agg (acA y), (cond b0 (.pointer (some ⟨q, 0, none⟩)) (u39)), (cond b1 (.string y.1) (u40)), (cond b2 (.pointer (some ⟨q, 2, none⟩)) (u41)), (cond b3 (.int .u64 y.2.2) (u42)), (cond b4 (.pointer (some ⟨g7, 0, none⟩)) (u43)), (cond b6 (.pointer (some ⟨g7, 1, none⟩)) (u44)), u45, u46, u47, u48, u49, u50, u51, u52, u53, u54, u55, u56, u57, u58, u59, u60, u61, u62, u63, u64, u65, u66, u67, u68, u69, u70, u71, u72, u73, u74, u75, u76, u77, u78, u79, u80, u81, u82, u83, u84, u85, u86, u87, u88, u89, u90, u91, u92, u93, u94, u95], defers := [] } ∧ K5 w g a c L (N1 + 1) g4 g6 g7 (some ⟨b, off, none⟩) rc A co B7 ⟨nm, 0, gas, 0, mm, []⟩ y q b5 b7 V) (by kernel_rfl) (by kernel_rfl) ?_ ?_ ?_
     ·exact ⟨false, false, false, false, false, false, false, false, rfl, rfl, h0⟩
     ·intro i9 listed act9 V hi9 hr hJ
      obtain ⟨b0, b1, b2, b3, b4, b5, b6, b7, rfl, rfl, hF⟩ := hJ
      have hi2 : i9 < 8 := hi9
      have hi3 : i9 = 0 ∨ i9 = 1 ∨ i9 = 2 ∨ i9 = 3 ∨ i9 = 4 ∨ i9 = 5 ∨ i9 = 6 ∨ i9 = 7 := by omega
      rcases hi3 with rfl | rfl | rfl | rfl | rfl | rfl | rfl | rfl
      ·obtain rfl : b0 = false := ready_self hr
       refine st_val rfl (by kernel_rfl) (some 39) rfl (.pointer (some ⟨q, 0, none⟩)) V (by kernel_rfl) ?_
       exact ⟨true, b1, b2, b3, b4, b5, b6, b7, rfl, rfl, hF⟩
      ·obtain rfl : b1 = false := ready_self hr
       obtain rfl : b0 = true := ready_dep hr 0 (by kernel_rfl)
       refine st_load rfl (by kernel_rfl) (some 40) rfl 9 (.tmp 39) rfl ⟨q, 0, none⟩ (.string y.1) (by kernel_rfl) (hF.2.load (i := 0) rfl (by kernel_rfl)) ?_
       exact ⟨true, true, b2, b3, b4, b5, b6, b7, rfl, rfl, hF⟩
      ·obtain rfl : b2 = false := ready_self hr
       refine st_val rfl (by kernel_rfl) (some 41) rfl (.pointer (some ⟨q, 2, none⟩)) V (by kernel_rfl) ?_
       exact ⟨b0, b1, true, b3, b4, b5, b6, b7, rfl, rfl, hF⟩
      ·obtain rfl : b3 = false := ready_self hr
       obtain rfl : b2 = true := ready_dep hr 2 (by kernel_rfl)
       refine st_load rfl (by kernel_rfl) (some 42) rfl 23 (.tmp 41) rfl ⟨q, 2, none⟩ (.int .u64 y.2.2) (by kernel_rfl) (hF.2.load (i := 2) rfl (by kernel_rfl)) ?_
       exact ⟨b0, b1, true, true, b4, b5, b6, b7, rfl, rfl, hF⟩
      ·obtain rfl : b4 = false := ready_self hr
       refine st_val rfl (by kernel_rfl) (some 43) rfl (.pointer (some ⟨g7, 0, none⟩)) V (by kernel_rfl) ?_
       exact ⟨b0, b1, b2, b3, true, b5, b6, b7, rfl, rfl, hF⟩
      ·obtain rfl : b5 = false := ready_self hr
       obtain rfl : b4 = true := ready_dep hr 4 (by kernel_rfl)
       obtain rfl : b1 = true := ready_dep hr 1 (by kernel_rfl)
       obtain ⟨V2, hst, hX2, -, hbt⟩ := st_cell (i := 0) (ty := 9) (v := .string y.1) (cs' := txA ⟨y.1, cond b7 y.2.2 0, gas, 0, mm, []⟩ none 0) (w0 := V) (B := g7) hF.1.b7 (Below.refl _ _) (Nat.le_refl _) (by show 0 < 6; decide) rfl (by kernel_rfl) rfl
       refine st_storeA rfl (by kernel_rfl) rfl 9 (.tmp 43) (.tmp 40) rfl (.pointer (some ⟨g7, 0, none⟩)) (.string y.1) (by kernel_rfl) (by kernel_rfl) _ hst ?_
       exact ⟨b0, true, b2, b3, true, true, b6, b7, rfl, rfl, hF.1.set HLY.out hbt hX2 rfl, hF.2.but hbt hqn⟩
      ·obtain rfl : b6 = false := ready_self hr
       refine st_val rfl (by kernel_rfl) (some 44) rfl (.pointer (some ⟨g7, 1, none⟩)) V (by kernel_rfl) ?_
       exact ⟨b0, b1, b2, b3, b4, b5, true, b7, rfl, rfl, hF⟩
      ·obtain rfl : b7 = false := ready_self hr
       obtain rfl : b6 = true := ready_dep hr 6 (by kernel_rfl)
       obtain rfl : b3 = true := ready_dep hr 3 (by kernel_rfl)
       obtain ⟨V2, hst, hX2, -, hbt⟩ := st_cell (i := 1) (ty := 23) (v := .int .u64 y.2.2) (cs' := txA ⟨cond b5 y.1 nm, y.2.2, gas, 0, mm, []⟩ none 0) (w0 := V) (B := g7) hF.1.b7 (Below.refl _ _) (Nat.le_refl _) (by show 1 < 6; decide) rfl (by kernel_rfl) rfl
       refine st_storeA rfl (by kernel_rfl) rfl 23 (.tmp 44) (.tmp 42) rfl (.pointer (some ⟨g7, 1, none⟩)) (.int .u64 y.2.2) (by kernel_rfl) (by kernel_rfl) _ hst ?_
       exact ⟨b0, b1, b2, true, b4, b5, true, true, rfl, rfl, hF.1.set HLY.out hbt hX2 rfl, hF.2.but hbt hqn⟩
     ·intro act9 V hJ
      obtain ⟨b0, b1, b2, b3, b4, b5, b6, b7, he, rfl, hF⟩ := hJ
      have he : (#[true, true, true, true, true, true, true, true] : Array Bool) = #[b0, b1, b2, b3, b4, b5, b6, b7] := he
      simp only [Array.mk.injEq, List.cons.injEq, and_true] at he
      obtain ⟨rfl, rfl, rfl, rfl, rfl, rfl, rfl, rfl⟩ := he
      simp only [cond_true]
      have HS2 : Hid (St w g a c L (N1 + 1) g4 g6 g7 (some ⟨b, off, none⟩) rc A co B7 ⟨y.1, y.2.2, gas, 0, mm, []⟩ none 0 V) := Lib.hid hF.1
      clear hF h0
      go_wp2_with fail
      go_meet
      exact ⟨N1 + 1, y.1, y.2.2, rfl, Lib.hid (by have := HN1.out; omega), Lib.hid ⟨hyq.1, hyq.2.2⟩, HS2⟩
  case rest =>
   obtain ⟨N2, nm2, sq, rfl, HN2, HNS, HS2⟩ := hcut
   clear HS1 HN1 HTB
   obtain ⟨v10, hpv10, hv10⟩ := pl_nat L N2 6 (by decide)
   have CX10 := nsn_next HS2.out.ns HL.out (by have := HKK.out; have := HN2.out; omega) 6 (by decide) (by decide) hpv10
   go_upto_region 6 with fail
   refine wl <| gz1 (.pointer (some ⟨g, 0, none⟩)) <| gzc (.int .i64 v10) (fun w' => NSn w' g a c L (N2 + 1) ∧ But g wc w') CX10 (fun V6 hq10 => ?_)
   simp only [pu]
   have HS3 := Lib.hid (HS2.out.call HLY.out hq10.1 hq10.2)
   have HN3 : Hid (N2 + 1 ≤ k + 6) := Lib.hid (by have := HN2.out; omega)
   clear hq10 CX10 HS2
   obtain ⟨tb, htb⟩ : ∃ tb, decide ((v10 : Int) = 0) = tb := ⟨_, rfl⟩
   refine gzw (.bool tb) (eql_n rfl v10 0 htb) <| wn ?_
   simp only [pu]
   clear htb
   go_upto_if 47 with fail
   go_cut [8] (fun s8 wx => ∃ (N3 : Nat) (sq3 : Int), s8 = .int .i64 n ∧ Hid (N3 ≤ k + 7) ∧ Hid (W64 sq3) ∧ Hid (St w g a c L N3 g4 g6 g7 ra rc A co B7 ⟨nm2, sq3, gas, 0, mm, []⟩ none 0 wx))
   case first =>
    cases tb
    ·skip
     go_wp2_with fail
     go_meet
     exact ⟨N2 + 1, sq, rfl, Lib.hid (by have := HN3.out; omega), Lib.hid HNS.out.2, HS3⟩
    ·skip
     obtain ⟨v9, hpv9, hv9⟩ := pl_nat L (N2 + 1) 3 (by decide)
     have CX : ∀ V, NSn V g a c L (N2 + 1) → Calls Tryz.prog 23 #[.pointer (some ⟨g, 0, none⟩), .int .i64 3] V fun e w' => e = .returned (.int .i64 v9) ∧ NSn w' g a c L ((N2 + 1) + 1) ∧ But g V w' := fun V hV => nsn_next hV HL.out (by have := HKK.out; have := HN3.out; omega) 3 (by decide) (by decide) hpv9
     obtain ⟨sq3, hsq3⟩ : ∃ sq3, IntKind.u64.wrap (sq + (v9 : Int)) = sq3 := ⟨_, rfl⟩
     have hw3 : W64 sq3 := by rw [← hsq3]; exact W64.wrap _
     have h0 : K7 w g a c L (N2 + 1) g4 g6 g7 ra rc A co B7 ⟨nm2, sq, gas, 0, mm, []⟩ sq3 0 false false V6.drew ∧ (false = true → false = true) ∧ (false = true → false = true) := ⟨st_drew HS3.out, id, id⟩
     go_upto_region 7 with fail
     refine wp_region_inv (fun listed act9 V => ∃ b0 b1 b2 b3 b4 b5 b6 b7 : Bool, listed = #[b0, b1, b2, b3, b4, b5, b6, b7] ∧ act9 = { tmps := #[.pointer (some ⟨g, 0, none⟩), .agg #[.slice ra n rc, .int .u64 co], .int .u64 p, undef, .pointer (some ⟨g4, 0, none⟩), undef, .pointer (some ⟨g6, 0, none⟩), .pointer (some ⟨g7, 0, none⟩), .int .i64 n, u9, undef, undef, u12, u13, u14, u15, u16, u17, u18, u19, u20, u21, u22, u23, u24, u25, u26, u27, u28, u29, u30, u31, u32, u33, u34, u35, u36, u37, u38, u39, u40, u41, u42, u43, u44, .pointer (some ⟨g, 0, none⟩), .int .i64 v10, .bool true, (cond b0 (.pointer (some ⟨g7, 1, none⟩)) (u48)), (cond b1 (.int .u64 sq) (u49)), (cond b2 (.pointer (some ⟨g, 0, none⟩)) (u50)), (cond b3 (.int .i64 v9) (u51)), (cond b4 (.int .u64 v9) (u52)), (cond b5 (.int .u64 sq3) (u53)), (cond b6 (.pointer (some ⟨g7, 1, none⟩)) (u54)), u55, u56, u57, u58, u59, u60, u61, u62, u63, u64, u65, u66, u67, u68, u69, u70, u71, u72, u73, u74, u75, u76, u77, u78, u79, u80, u81, u82, u83, u84, u85, u86, u87, u88, u89, u90, u91, u92, u93, u94, u95], defers := [] } ∧ (K7 w g a c L (N2 + 1) g4 g6 g7 ra rc A co B7 ⟨nm2, sq, gas, 0, mm, []⟩ sq3 0 b3 b7 V ∧ (b7 = true → b1 = true) ∧ (b5 = true → b1 = true))) (by kernel_rfl) (by kernel_rfl) ?_ ?_ ?_
     ·exact ⟨false, false, false, false, false, false, false, false, rfl, rfl, h0⟩
     ·intro i9 listed act9 V hi9 hr hJ
      obtain ⟨b0, b1, b2, b3, b4, b5, b6, b7, rfl, rfl, hF⟩ := hJ
      have hi2 : i9 < 8 := hi9
      have hi3 : i9 = 0 ∨ i9 = 1 ∨ i9 = 2 ∨ i9 = 3 ∨ i9 = 4 ∨ i9 = 5 ∨ i9 = 6 ∨ i9 = 7 := by omega
      rcases hi3 with rfl | rfl | rfl | rfl | rfl | rfl | rfl | rfl
      ·obtain rfl : b0 = false := ready_self hr
       refine st_val rfl (by kernel_rfl) (some 48) rfl (.pointer (some ⟨g7, 1, none⟩)) V (by kernel_rfl) ?_
       exact ⟨true, b1, b2, b3, b4, b5, b6, b7, rfl, rfl, hF⟩
      ·obtain rfl : b1 = false := ready_self hr
       obtain rfl : b0 = true := ready_dep hr 0 (by kernel_rfl)
       obtain rfl : b7 = false := ff hF.2.1 rfl
       refine st_load rfl (by kernel_rfl) (some 49) rfl 23 (.tmp 48) rfl ⟨g7, 1, none⟩ (.int .u64 sq) (by kernel_rfl) ((St.b7 hF.1).load (i := 1) rfl (by kernel_rfl)) ?_
       exact ⟨true, true, b2, b3, b4, b5, b6, false, rfl, rfl, hF.1, (fun _ => rfl), fun _ => rfl⟩
      ·obtain rfl : b2 = false := ready_self hr
       refine st_val rfl (by kernel_rfl) (some 50) rfl (.pointer (some ⟨g, 0, none⟩)) V (by kernel_rfl) ?_
       exact ⟨b0, b1, true, b3, b4, b5, b6, b7, rfl, rfl, hF⟩
      ·obtain rfl : b3 = false := ready_self hr
       obtain rfl : b2 = true := ready_dep hr 2 (by kernel_rfl)
       refine st_call rfl (by kernel_rfl) (some 51) rfl 23 #[.pointer (some ⟨g, 0, none⟩), .int .i64 3] (by kernel_rfl) ((CX V (St.ns hF.1)).mono ?_)
       rintro e V2 ⟨rfl, hns, hbt⟩
       exact ⟨_, rfl, b0, b1, true, true, b4, b5, b6, b7, rfl, rfl, St.call hF.1 HLY.out hns hbt, hF.2⟩
      ·obtain rfl : b4 = false := ready_self hr
       obtain rfl : b3 = true := ready_dep hr 3 (by kernel_rfl)
       refine st_val rfl (by kernel_rfl) (some 52) rfl (.int .u64 v9) V (conv_iu rfl v9 (by omega) (by omega) (by kernel_rfl) _) ?_
       exact ⟨b0, b1, b2, true, true, b5, b6, b7, rfl, rfl, hF⟩
      ·obtain rfl : b5 = false := ready_self hr
       obtain rfl : b1 = true := ready_dep hr 1 (by kernel_rfl)
       obtain rfl : b4 = true := ready_dep hr 4 (by kernel_rfl)
       refine st_val rfl (by kernel_rfl) (some 53) rfl (.int .u64 sq3) V (by rw [← hsq3]; exact add_uw rfl sq v9 (by kernel_rfl) (by kernel_rfl) _) ?_
       exact ⟨b0, true, b2, b3, true, true, b6, b7, rfl, rfl, hF.1, (fun _ => rfl), fun _ => rfl⟩
      ·obtain rfl : b6 = false := ready_self hr
       refine st_val rfl (by kernel_rfl) (some 54) rfl (.pointer (some ⟨g7, 1, none⟩)) V (by kernel_rfl) ?_
       exact ⟨b0, b1, b2, b3, b4, b5, true, b7, rfl, rfl, hF⟩
      ·obtain rfl : b7 = false := ready_self hr
       obtain rfl : b6 = true := ready_dep hr 6 (by kernel_rfl)
       obtain rfl : b5 = true := ready_dep hr 5 (by kernel_rfl)
       obtain ⟨V2, hst, hX2, -, hbt⟩ := st_cell (i := 1) (ty := 23) (v := .int .u64 sq3) (cs' := txA ⟨nm2, sq3, gas, 0, mm, []⟩ none 0) (w0 := V) (B := g7) (St.b7 hF.1) (Below.refl _ _) (Nat.le_refl _) (by show 1 < 6; decide) rfl (by kernel_rfl) rfl
       refine st_storeA rfl (by kernel_rfl) rfl 23 (.tmp 54) (.tmp 53) rfl (.pointer (some ⟨g7, 1, none⟩)) (.int .u64 sq3) (by kernel_rfl) (by kernel_rfl) _ hst ?_
       exact ⟨b0, b1, b2, b3, b4, true, true, true, rfl, rfl, St.set hF.1 HLY.out hbt hX2 rfl, (fun _ => hF.2.2 rfl), fun _ => hF.2.2 rfl⟩
     ·intro act9 V hJ
      obtain ⟨b0, b1, b2, b3, b4, b5, b6, b7, he, rfl, hF⟩ := hJ
      have he : (#[true, true, true, true, true, true, true, true] : Array Bool) = #[b0, b1, b2, b3, b4, b5, b6, b7] := he
      simp only [Array.mk.injEq, List.cons.injEq, and_true] at he
      obtain ⟨rfl, rfl, rfl, rfl, rfl, rfl, rfl, rfl⟩ := he
      simp only [cond_true]
      have HS4 : Hid (St w g a c L (N2 + 1 + 1) g4 g6 g7 ra rc A co B7 ⟨nm2, sq3, gas, 0, mm, []⟩ none 0 V) := Lib.hid hF.1
      clear hF h0 CX
      go_wp2_with fail
      go_meet
      exact ⟨N2 + 1 + 1, sq3, rfl, Lib.hid (by have := HN3.out; omega), Lib.hid hw3, HS4⟩
   case rest =>
    obtain ⟨N3, sq3, rfl, HN3b, HW3, HS4⟩ := hcut
    clear HS3 HN3
    obtain ⟨v9, hpv9, hv9⟩ := pl_nat L N3 5 (by decide)
    have CX : ∀ V, NSn V g a c L N3 → Calls Tryz.prog 23 #[.pointer (some ⟨g, 0, none⟩), .int .i64 5] V fun e w' => e = .returned (.int .i64 v9) ∧ NSn w' g a c L (N3 + 1) ∧ But g V w' := fun V hV => nsn_next hV HL.out (by have := HKK.out; have := HN3b.out; omega) 5 (by decide) (by decide) hpv9
    obtain ⟨f1, hf1⟩ : ∃ f1, IntKind.u64.wrap (gas * p) = f1 := ⟨_, rfl⟩
    obtain ⟨f2, hf2⟩ : ∃ f2, IntKind.u64.wrap (f1 * (1 + (v9 : Int))) = f2 := ⟨_, rfl⟩
    have HW4 : Hid (W64 f2) := Lib.hid (by rw [← hf2]; exact W64.wrap _)
    have h0 : K7 w g a c L N3 g4 g6 g7 ra rc A co B7 ⟨nm2, sq3, gas, 0, mm, []⟩ sq3 f2 false false wc.drew ∧ True := ⟨st_drew HS4.out, trivial⟩
    go_upto_region 8 with fail
    refine wp_region_inv (fun listed act9 V => ∃ b0 b1 b2 b3 b4 b5 b6 b7 b8 b9 b10 : Bool, listed = #[b0, b1, b2, b3, b4, b5, b6, b7, b8, b9, b10] ∧ act9 = { tmps := #[.pointer (some ⟨g, 0, none⟩), .agg #[.slice ra n rc, .int .u64 co], .int .u64 p, undef, .pointer (some ⟨g4, 0, none⟩), undef, .pointer (some ⟨g6, 0, none⟩), .pointer (some ⟨g7, 0, none⟩), .int .i64 n, u9, undef, undef, u12, u13, u14, u15, u16, u17, u18, u19, u20, u21, u22, u23, u24, u25, u26, u27, u28, u29, u30, u31, u32, u33, u34, u35, u36, u37, u38, u39, u40, u41, u42, u43, u44, u45, u46, u47, u48, u49, u50, u51, u52, u53, u54, (cond b0 (.pointer (some ⟨g7, 2, none⟩)) (u55)), (cond b1 (.int .u64 gas) (u56)), (cond b2 (.int .u64 p) (u57)), (cond b3 (.int .u64 f1) (u58)), (cond b4 (.pointer (some ⟨g, 0, none⟩)) (u59)), (cond b5 (.int .i64 v9) (u60)), (cond b6 (.int .i64 (1 + v9 : Nat)) (u61)), (cond b7 (.int .u64 (1 + v9 : Nat)) (u62)), (cond b8 (.int .u64 f2) (u63)), (cond b9 (.pointer (some ⟨g7, 3, none⟩)) (u64)), u65, u66, u67, u68, u69, u70, u71, u72, u73, u74, u75, u76, u77, u78, u79, u80, u81, u82, u83, u84, u85, u86, u87, u88, u89, u90, u91, u92, u93, u94, u95], defers := [] } ∧ (K7 w g a c L N3 g4 g6 g7 ra rc A co B7 ⟨nm2, sq3, gas, 0, mm, []⟩ sq3 f2 b5 b10 V ∧ True)) (by kernel_rfl) (by kernel_rfl) ?_ ?_ ?_
    ·exact ⟨false, false, false, false, false, false, false, false, false, false, false, rfl, rfl, h0⟩
    ·intro i9 listed act9 V hi9 hr hJ
     obtain ⟨b0, b1, b2, b3, b4, b5, b6, b7, b8, b9, b10, rfl, rfl, hF⟩ := hJ
     have hi2 : i9 < 11 := hi9
     have hi3 : i9 = 0 ∨ i9 = 1 ∨ i9 = 2 ∨ i9 = 3 ∨ i9 = 4 ∨ i9 = 5 ∨ i9 = 6 ∨ i9 = 7 ∨ i9 = 8 ∨ i9 = 9 ∨ i9 = 10 := by omega
     rcases hi3 with rfl | rfl | rfl | rfl | rfl | rfl | rfl | rfl | rfl | rfl | rfl
     ·obtain rfl : b0 = false := ready_self hr
      refine st_val rfl (by kernel_rfl) (some 55) rfl (.pointer (some ⟨g7, 2, none⟩)) V (by kernel_rfl) ?_
      exact ⟨true, b1, b2, b3, b4, b5, b6, b7, b8, b9, b10, rfl, rfl, hF⟩
     ·obtain rfl : b1 = false := ready_self hr
      obtain rfl : b0 = true := ready_dep hr 0 (by kernel_rfl)
      refine st_load rfl (by kernel_rfl) (some 56) rfl 23 (.tmp 55) rfl ⟨g7, 2, none⟩ (.int .u64 gas) (by kernel_rfl) ((St.b7 hF.1).load (i := 2) rfl (by kernel_rfl)) ?_
      exact ⟨true, true, b2, b3, b4, b5, b6, b7, b8, b9, b10, rfl, rfl, hF⟩
     ·obtain rfl : b2 = false := ready_self hr
      refine st_val rfl (by kernel_rfl) (some 57) rfl (.int .u64 p) V (by kernel_rfl) ?_
      exact ⟨b0, b1, true, b3, b4, b5, b6, b7, b8, b9, b10, rfl, rfl, hF⟩
     ·obtain rfl : b3 = false := ready_self hr
      obtain rfl : b1 = true := ready_dep hr 1 (by kernel_rfl)
      obtain rfl : b2 = true := ready_dep hr 2 (by kernel_rfl)
      refine st_val rfl (by kernel_rfl) (some 58) rfl (.int .u64 f1) V (by rw [← hf1]; exact mul_uw rfl gas p (by kernel_rfl) (by kernel_rfl) _) ?_
      exact ⟨b0, true, true, true, b4, b5, b6, b7, b8, b9, b10, rfl, rfl, hF⟩
     ·obtain rfl : b4 = false := ready_self hr
      refine st_val rfl (by kernel_rfl) (some 59) rfl (.pointer (some ⟨g, 0, none⟩)) V (by kernel_rfl) ?_
      exact ⟨b0, b1, b2, b3, true, b5, b6, b7, b8, b9, b10, rfl, rfl, hF⟩
     ·obtain rfl : b5 = false := ready_self hr
      obtain rfl : b4 = true := ready_dep hr 4 (by kernel_rfl)
      refine st_call rfl (by kernel_rfl) (some 60) rfl 23 #[.pointer (some ⟨g, 0, none⟩), .int .i64 5] (by kernel_rfl) ((CX V (St.ns hF.1)).mono ?_)
      rintro e V2 ⟨rfl, hns, hbt⟩
      exact ⟨_, rfl, b0, b1, b2, b3, true, true, b6, b7, b8, b9, b10, rfl, rfl, St.call hF.1 HLY.out hns hbt, hF.2⟩
     ·obtain rfl : b6 = false := ready_self hr
      obtain rfl : b5 = true := ready_dep hr 5 (by kernel_rfl)
      refine st_val rfl (by kernel_rfl) (some 61) rfl (.int .i64 (1 + v9 : Nat)) V (add_nat rfl 1 v9 (by omega) (by kernel_rfl) (by kernel_rfl) _) ?_
      exact ⟨b0, b1, b2, b3, b4, true, true, b7, b8, b9, b10, rfl, rfl, hF⟩
     ·obtain rfl : b7 = false := ready_self hr
      obtain rfl : b6 = true := ready_dep hr 6 (by kernel_rfl)
      refine st_val rfl (by kernel_rfl) (some 62) rfl (.int .u64 (1 + v9 : Nat)) V (conv_iu rfl (1 + v9 : Nat) (by omega) (by omega) (by kernel_rfl) _) ?_
      exact ⟨b0, b1, b2, b3, b4, b5, true, true, b8, b9, b10, rfl, rfl, hF⟩
     ·obtain rfl : b8 = false := ready_self hr
      obtain rfl : b3 = true := ready_dep hr 3 (by kernel_rfl)
      obtain rfl : b7 = true := ready_dep hr 7 (by kernel_rfl)
      refine st_val rfl (by kernel_rfl) (some 63) rfl (.int .u64 f2) V (by rw [← hf2, show (1 + (v9 : Int)) = ((1 + v9 : Nat) : Int) by omega]; exact mul_uw rfl f1 (1 + v9 : Nat) (by kernel_rfl) (by kernel_rfl) _) ?_
      exact ⟨b0, b1, b2, true, b4, b5, b6, true, true, b9, b10, rfl, rfl, hF⟩
     ·obtain rfl : b9 = false := ready_self hr
      refine st_val rfl (by kernel_rfl) (some 64) rfl (.pointer (some ⟨g7, 3, none⟩)) V (by kernel_rfl) ?_
      exact ⟨b0, b1, b2, b3, b4, b5, b6, b7, b8, true, b10, rfl, rfl, hF⟩
     ·obtain rfl : b10 = false := ready_self hr
      obtain rfl : b9 = true := ready_dep hr 9 (by kernel_rfl)
      obtain rfl : b8 = true := ready_dep hr 8 (by kernel_rfl)
      obtain ⟨V2, hst, hX2, -, hbt⟩ := st_cell (i := 3) (ty := 23) (v := .int .u64 f2) (cs' := txA ⟨nm2, sq3, gas, f2, mm, []⟩ none 0) (w0 := V) (B := g7) (St.b7 hF.1) (Below.refl _ _) (Nat.le_refl _) (by show 3 < 6; decide) rfl (by kernel_rfl) rfl
      refine st_storeA rfl (by kernel_rfl) rfl 23 (.tmp 64) (.tmp 63) rfl (.pointer (some ⟨g7, 3, none⟩)) (.int .u64 f2) (by kernel_rfl) (by kernel_rfl) _ hst ?_
      exact ⟨b0, b1, b2, b3, b4, b5, b6, b7, true, true, true, rfl, rfl, St.set hF.1 HLY.out hbt hX2 rfl, trivial⟩
    ·intro act9 V hJ
     obtain ⟨b0, b1, b2, b3, b4, b5, b6, b7, b8, b9, b10, he, rfl, hF⟩ := hJ
     have he : (#[true, true, true, true, true, true, true, true, true, true, true] : Array Bool) = #[b0, b1, b2, b3, b4, b5, b6, b7, b8, b9, b10] := he
     simp only [Array.mk.injEq, List.cons.injEq, and_true] at he
     obtain ⟨rfl, rfl, rfl, rfl, rfl, rfl, rfl, rfl, rfl, rfl, rfl⟩ := he
     simp only [cond_true]
     have HS5 : Hid (St w g a c L (N3 + 1) g4 g6 g7 ra rc A co B7 ⟨nm2, sq3, gas, f2, mm, []⟩ none 0 V) := Lib.hid hF.1
     have HN5 : Hid (N3 + 1 ≤ k + 8) := Lib.hid (by have := HN3b.out; omega)
     clear hF h0 CX HS4 hf1 hf2 hpv9 hv9
     obtain ⟨v11, hpv11, hv11⟩ := pl_nat L (N3 + 1) 9 (by decide)
     have CX11 := nsn_next HS5.out.ns HL.out (by have := HKK.out; have := HN5.out; omega) 9 (by decide) (by decide) hpv11
     go_upto_region 9 with fail
     refine wl <| gz1 (.pointer (some ⟨g, 0, none⟩)) <| gzc (.int .i64 v11) (fun w' => NSn w' g a c L ((N3 + 1) + 1) ∧ But g V w') CX11 (fun V9 hq11 => ?_)
     simp only [pu]
     have HS6 := Lib.hid (HS5.out.call HLY.out hq11.1 hq11.2)
     have HN6 : Hid (N3 + 1 + 1 ≤ k + 9) := Lib.hid (by have := HN5.out; omega)
     clear hq11 CX11 HS5 HN5
     obtain ⟨tb, htb⟩ : ∃ tb, decide ((v11 : Int) = 0) = tb := ⟨_, rfl⟩
     refine gzw (.bool tb) (eql_n rfl v11 0 htb) <| wn ?_
     simp only [pu]
     clear htb
     go_upto_if 67 with fail
     go_cut [8] (fun s8 wx => ∃ (N4 : Nat) (fe : Int), s8 = .int .i64 n ∧ Hid (N4 ≤ k + 10) ∧ Hid (W64 fe) ∧ Hid (St w g a c L N4 g4 g6 g7 ra rc A co B7 ⟨nm2, sq3, gas, fe, mm, []⟩ none 0 wx))
     case first =>
      cases tb
      ·skip
       go_wp2_with fail
       go_meet
       exact ⟨N3 + 1 + 1, f2, rfl, Lib.hid (by have := HN6.out; omega), HW4, HS6⟩
      ·skip
       obtain ⟨v12, hpv12, hv12⟩ := pl_nat L (N3 + 1 + 1) 200 (by decide)
       have CX12 := nsn_next HS6.out.ns HL.out (by have := HKK.out; have := HN6.out; omega) 200 (by decide) (by decide) hpv12
       go_upto_region 10 with fail
       refine wl <| gz1 (.pointer (some ⟨g, 0, none⟩)) <| gzc (.int .i64 v12) (fun w' => NSn w' g a c L ((N3 + 1 + 1) + 1) ∧ But g V9 w') CX12 (fun V10 hq12 => ?_)
       have hS7 := HS6.out.call HLY.out hq12.1 hq12.2
       obtain ⟨V11, hst11, hX11, -, hbt11⟩ := st_cell (i := 3) (ty := 23) (v := .int .u64 v12) (cs' := txA ⟨nm2, sq3, gas, v12, mm, []⟩ none 0) (w0 := V10) (B := g7) hS7.b7 (Below.refl _ _) (Nat.le_refl _) (by show 3 < 6; decide) rfl (by kernel_rfl) rfl
       have HS8 := Lib.hid (St.set (x' := ⟨nm2, sq3, gas, v12, mm, []⟩) hS7 HLY.out hbt11 hX11 rfl)
       simp only [pu]
       refine gzv (.int .u64 v12) (conv_iu rfl v12 (by omega) (by omega) (by kernel_rfl) _) <| gz1 (.pointer (some ⟨g7, 3, none⟩)) <| gzs rfl (hst11) <| wn ?_
       simp only [pu]
       clear hst11 hX11 hbt11 hS7 hq12 CX12
       go_wp2_with fail
       go_meet
       exact ⟨N3 + 1 + 1 + 1, v12, rfl, Lib.hid (by have := HN6.out; omega), Lib.hid ⟨by omega, by omega⟩, HS8⟩
     case rest =>
      obtain ⟨N4, fe, rfl, HN7, HWF, HS7⟩ := hcut
      clear HS6 HN6
      obtain ⟨v13, hpv13, hv13⟩ := pl_nat L N4 3 (by decide)
      have CX13 := nsn_next HS7.out.ns HL.out (by have := HKK.out; have := HN7.out; omega) 3 (by decide) (by decide) hpv13
      go_upto_region 11 with fail
      refine wl <| gz1 (.pointer (some ⟨g, 0, none⟩)) <| gzc (.int .i64 v13) (fun w' => NSn w' g a c L (N4 + 1) ∧ But g wc w') CX13 (fun V12 hq13 => ?_)
      simp only [pu]
      refine gz1 (.int .i64 v13) <| wn ?_
      simp only [pu]
      have HS8 := Lib.hid (HS7.out.call HLY.out hq13.1 hq13.2)
      have HN8 : Hid (N4 + 1 ≤ k + 11 + 3 * 0) := Lib.hid (by have := HN7.out; omega)
      clear hq13 CX13 HS7 HN7
      have hv13' : v13 ≤ 2 := by omega
      go_wp2_with fail
      go_loopg [10] (v13 + 1) (fun gg s10 wx => ∃ (z : Int) (M : List Tf) (a2 : Option Addr) (c2 N : Nat), s10 = .int .i64 z ∧ -1 ≤ z ∧ (M.length : Int) + z = v13 ∧ Hid (N ≤ k + 11 + 3 * M.length) ∧ Hid (∀ y, y ∈ M → NmQ y.1 ∧ 0 < y.2 ∧ W64 y.2) ∧ Hid (St w g a c L N g4 g6 g7 ra rc A co B7 ⟨nm2, sq3, gas, fe, mm, M⟩ a2 c2 wx) ∧ ((gg : Nat) : Int) = z + 1)
      case atStart => exact ⟨v13, [], none, 0, N4 + 1, rfl, by omega, by simp, HN8, Lib.hid (fun y hy => by cases hy), HS8, by omega⟩
      case round =>
       obtain ⟨z, M, a2, c2, N, rfl, hz1, hz2, HNN, HMQ, HS, hg⟩ := hrel
       clear HS8 HN8
       by_cases hlt : 0 ≤ z
       ·skip
        obtain ⟨i, rfl⟩ : ∃ i : Nat, z = i := ⟨z.toNat, by omega⟩
        have HG : Hid (gk = i + 1 ∧ M.length + i = v13 ∧ i ≤ 2 ∧ M.length ≤ 2) := Lib.hid ⟨by omega, by omega, by omega, by omega⟩
        have CN := mk_name (HS.out.ns.ns (Nat.le_refl N)) HL.out (by have := HNN.out; have := HKK.out; have := HG.out; omega)
        clear hz1 hz2 hg
        go_upto_region 12 with fail
        refine wl <| gz1 (.int .i64 i) <| gzb (geq_n rfl (i) (0) dT) <| wn ?_
        simp only [pu]
        go_upto_region 14 with fail
        refine wl <| gz1 (.pointer (some ⟨g, 0, none⟩)) <| gze (fun v w' => ∃ s, v = .string s ∧ NmQ s ∧ NS w' g a c L (N + 1) ∧ But g wr w') ((CN).mono fun e w' z => by obtain ⟨s, h1, h2⟩ := z; exact ⟨_, h1, s, rfl, h2⟩) (fun vv Y1 hq => ?_)
        obtain ⟨tn, rfl, hqtn, hnstn, hbuttn⟩ := hq
        obtain ⟨N9, hN9, hns9⟩ := hnstn
        have hS9 := HS.out.call HLY.out hns9 hbuttn
        obtain ⟨v14, hpv14, hv14⟩ := pl_nat L N9 60 (by decide)
        have CX14 := nsn_next hns9 HL.out (by have := HKK.out; have := HNN.out; have := HG.out; omega) 60 (by decide) (by decide) hpv14
        simp only [pu]
        refine gz1 (.pointer (some ⟨g, 0, none⟩)) <| gzc (.int .i64 v14) (fun w' => NSn w' g a c L (N9 + 1) ∧ But g Y1 w') CX14 (fun Y2 hq14 => ?_)
        have hS10 := hS9.call HLY.out hq14.1 hq14.2
        obtain ⟨Y3, hst3, hb3, hbx3⟩ := new_tf Y2 (tn, 1 + (v14 : Int))
        simp only [pu]
        refine gzv (.int .u64 v14) (conv_iu rfl v14 (by omega) (by omega) (by kernel_rfl) _) <| gzw (.int .u64 (1 + v14)) (add_us rfl 1 v14 (by omega) (by omega)) <| gz1 (.agg (tfA (tn, 1 + (v14 : Int)))) ?_
        simp only [pu]
        refine run_to rfl (some 11) rfl (.pointer (some ⟨Y2.heap.size, 0, none⟩)) (Y2.alloc (.cells (tfA zTf) 59)) (by kernel_rfl) ?_
        simp only [pu]
        refine gzs rfl (hst3) <| wn ?_
        have HS11 := Lib.hid (hS10.below hb3)
        have hoff : (Value.slice a2 M.length c2).ownBlock ≠ some Y2.heap.size := fun e => by have := (hS10.rt.lt _ e).2; omega
        have HN11 : Hid (N9 + 1 ≤ k + 11 + 3 * M.length + 2) := Lib.hid (by have := HNN.out; omega)
        have hsz2 := hS10.sz
        have hwz2 := hS10.bt.1.size
        obtain ⟨q, hq⟩ : ∃ q, Y2.heap.size = q := ⟨_, rfl⟩
        rw [hq] at hbx3 hoff hsz2 hwz2 ⊢
        have HTN := Lib.hid hqtn
        obtain ⟨v15, hpv15, hv15⟩ := pl_nat L (N9 + 1) 12 (by decide)
        have CX15 := nsn_next HS11.out.ns HL.out (by have := HKK.out; have := HNN.out; have := HG.out; have := HN11.out; omega) 12 (by decide) (by decide) hpv15
        have HV14 : Hid ((0 : Int) < 1 + v14 ∧ W64 (1 + v14)) := Lib.hid ⟨by omega, by omega, by omega⟩
        obtain ⟨m1, hm1⟩ : ∃ m1, 1 + (v14 : Int) = m1 := ⟨_, rfl⟩
        rw [hm1] at hbx3 HV14 ⊢
        clear hst3 hS9 hS10 hb3 hq14 CX14 hq hqtn hns9 hbuttn CN hN9 hpv14 hv14 hm1 hpv15
        go_upto_region 15 with fail
        refine wl <| gz1 (.pointer (some ⟨g, 0, none⟩)) <| gzc (.int .i64 v15) (fun w' => NSn w' g a c L ((N9 + 1) + 1) ∧ But g Y3 w') CX15 (fun Y4 hq15 => ?_)
        simp only [pu]
        have HS12 := Lib.hid (HS11.out.call HLY.out hq15.1 hq15.2)
        have hbx4 := hbx3.but hq15.2 (by have := HS11.out.bt.1.size; have := HGW.out; omega)
        clear hq15 CX15 HS11 hbx3
        by_cases hv0 : v15 = 0
        ·skip
         refine gzb (eql_n rfl (v15) (0) dT) <| wn ?_
         simp only [pu]
         obtain ⟨Y5, hst5, hX5, -, hbt5⟩ := st_cell (i := 1) (ty := 23) (v := .int .u64 9223372036854775808) (cs' := tfA (tn, 9223372036854775808)) (w0 := Y4) (B := q) hbx4 (Below.refl _ _) (Nat.le_refl _) (by show 1 < 2; decide) rfl (by kernel_rfl) rfl
         have HS14 := Lib.hid (HS12.out.off HLY.out hbt5 (show w.heap.size ≤ q by omega) (show B7 ≤ q by omega) hoff)
         have HAM : Hid ((0 : Int) < 9223372036854775808 ∧ W64 9223372036854775808) := Lib.hid ⟨by decide, by decide, by decide⟩
         go_upto_region 16 with fail
         refine wl <| gz1 (.pointer (some ⟨q, 1, none⟩)) <| gzs rfl (hst5) <| wn ?_
         simp only [pu]
         clear hst5 hbt5 hbx4 HS12
         obtain ⟨a7, c7, Y6, hap, hr6, hb6⟩ := grow_tf HS14.out.rt HS14.out.sz (tn, 9223372036854775808) (by have := HG.out; show M.length ≤ 100000; omega)
         have hX6 : Hid (Bx Y5 q (tfA (tn, 9223372036854775808)) 59) := Lib.hid hX5
         obtain ⟨Y7, hst7, hS7⟩ := HS14.out.grow HLY.out HWB.out hb6 hr6
         have HS13 := Lib.hid hS7
         have hbd := build_tf (tn, 9223372036854775808) Y5
         have HMQ2 : Hid (∀ y, y ∈ M ++ [(tn, 9223372036854775808)] → NmQ y.1 ∧ 0 < y.2 ∧ W64 y.2) := Lib.hid (fun y hy => by
          rcases List.mem_append.1 hy with hy | hy
          ·exact HMQ.out y hy
          ·rw [List.mem_singleton] at hy
           subst hy
           exact ⟨HTN.out, HAM.out⟩)
         have HLN : Hid ((M ++ [(tn, 9223372036854775808)]).length = M.length + 1) := Lib.hid (by rw [List.length_append]; rfl)
         clear hr6 hb6 hS7
         go_upto_region 17 with fail
         refine wl <| gz1 (.pointer (some ⟨g7, 5, none⟩)) <| gzl rfl ⟨g7, 5, none⟩ (.slice a2 M.length c2) (HS14.out.b7.load (i := 5) rfl (by kernel_rfl)) <| gzl rfl ⟨q, 0, none⟩ (.agg (tfA (tn, 9223372036854775808))) (load_tfb hX6.out) ?_
         simp only [pu]
         refine gw_build (by kernel_rfl) (some 92) rfl 44 1 #[(0, .tmp 91)] rfl #[(0, .agg (tfA (tn, 9223372036854775808)))] (by kernel_rfl) (.slice (some ⟨Y5.heap.size, 0, none⟩) 1 1) _ hbd ?_
         simp only [pu]
         refine append_step rfl (some 93) rfl 44 rfl (.tmp 90) (.tmp 92) 44 rfl (.slice a2 M.length c2) (.slice (some ⟨Y5.heap.size, 0, none⟩) 1 1) (.slice a7 (M ++ [(tn, 9223372036854775808)]).length c7) Y6 (by kernel_rfl) (by kernel_rfl) hap ?_
         simp only [pu]
         refine gz1 (.pointer (some ⟨g7, 5, none⟩)) <| gzs rfl (hst7) <| wn ?_
         simp only [pu]
         clear hap hst7 hbd hX6
         go_upto_region 13 with fail
         refine wl <| gz1 (.int .i64 i) <| gzv (.int .i64 ((i : Int) - 1)) (sub_one rfl i (by have := HG.out; omega) (by kernel_rfl) _) <| gz1 (.int .i64 ((i : Int) - 1)) <| wn ?_
         simp only [pu]
         go_wp2_with fail
         go_roundg i
         case measure => have := HG.out; omega
         case rel => exact ⟨(i : Int) - 1, M ++ [(tn, 9223372036854775808)], a7, c7, N9 + 1 + 1, rfl, by omega, by have := HG.out; have := HLN.out; omega, Lib.hid (by have := HN11.out; have := HLN.out; omega), HMQ2, HS13, by omega⟩
        ·skip
         refine gzb (eql_n rfl (v15) (0) dF) <| wn ?_
         simp only [pu]
         have HAM := HV14
         obtain ⟨a7, c7, Y6, hap, hr6, hb6⟩ := grow_tf HS12.out.rt HS12.out.sz (tn, m1) (by have := HG.out; show M.length ≤ 100000; omega)
         have hX6 : Hid (Bx Y4 q (tfA (tn, m1)) 59) := Lib.hid hbx4
         obtain ⟨Y7, hst7, hS7⟩ := HS12.out.grow HLY.out HWB.out hb6 hr6
         have HS13 := Lib.hid hS7
         have hbd := build_tf (tn, m1) Y4
         have HMQ2 : Hid (∀ y, y ∈ M ++ [(tn, m1)] → NmQ y.1 ∧ 0 < y.2 ∧ W64 y.2) := Lib.hid (fun y hy => by
          rcases List.mem_append.1 hy with hy | hy
          ·exact HMQ.out y hy
          ·rw [List.mem_singleton] at hy
           subst hy
           exact ⟨HTN.out, HAM.out⟩)
         have HLN : Hid ((M ++ [(tn, m1)]).length = M.length + 1) := Lib.hid (by rw [List.length_append]; rfl)
         clear hr6 hb6 hS7
         go_upto_region 17 with fail
         refine wl <| gz1 (.pointer (some ⟨g7, 5, none⟩)) <| gzl rfl ⟨g7, 5, none⟩ (.slice a2 M.length c2) (HS12.out.b7.load (i := 5) rfl (by kernel_rfl)) <| gzl rfl ⟨q, 0, none⟩ (.agg (tfA (tn, m1))) (load_tfb hX6.out) ?_
         simp only [pu]
         refine gw_build (by kernel_rfl) (some 92) rfl 44 1 #[(0, .tmp 91)] rfl #[(0, .agg (tfA (tn, m1)))] (by kernel_rfl) (.slice (some ⟨Y4.heap.size, 0, none⟩) 1 1) _ hbd ?_
         simp only [pu]
         refine append_step rfl (some 93) rfl 44 rfl (.tmp 90) (.tmp 92) 44 rfl (.slice a2 M.length c2) (.slice (some ⟨Y4.heap.size, 0, none⟩) 1 1) (.slice a7 (M ++ [(tn, m1)]).length c7) Y6 (by kernel_rfl) (by kernel_rfl) hap ?_
         simp only [pu]
         refine gz1 (.pointer (some ⟨g7, 5, none⟩)) <| gzs rfl (hst7) <| wn ?_
         simp only [pu]
         clear hap hst7 hbd hX6
         go_upto_region 13 with fail
         refine wl <| gz1 (.int .i64 i) <| gzv (.int .i64 ((i : Int) - 1)) (sub_one rfl i (by have := HG.out; omega) (by kernel_rfl) _) <| gz1 (.int .i64 ((i : Int) - 1)) <| wn ?_
         simp only [pu]
         go_wp2_with fail
         go_roundg i
         case measure => have := HG.out; omega
         case rel => exact ⟨(i : Int) - 1, M ++ [(tn, m1)], a7, c7, N9 + 1 + 1, rfl, by omega, by have := HG.out; have := HLN.out; omega, Lib.hid (by have := HN11.out; have := HLN.out; omega), HMQ2, HS13, by omega⟩
       ·skip
        obtain ⟨hstz, hZ⟩ := store_txz (y := ⟨nm2, sq3, gas, fe, mm, M⟩) (a' := a2) (c' := c2) HS.out.b6
        have HLD := Lib.hid (load_txb HS.out.b7)
        have hbt6 : But g6 wr (wr.setRow g6 (txA ⟨nm2, sq3, gas, fe, mm, M⟩ a2 c2)) := But.setRow wr _
        have HE := Lib.hid (⟨⟨nm2, sq3, gas, fe, mm, M⟩, a2, c2, rfl, (HS.out.rt.but hbt6 HLY.out.l6).base HWB.out, ⟨HNS.out.1, HW3.out, HGAS.out, HWF.out, HMM.out, HMQ.out⟩, by show 1 ≤ M.length; omega, by show M.length ≤ 3; omega, (HS.out.ns.but hbt6 (by have := HGW.out; have := HG46.out; omega) (fun hl y hy => by have := HAB.out hl y hy; have := HG46.out; omega)).ns (by have := HNN.out; omega), but_at HS.out.bt hbt6 HG46.out.2.1 (by have := HGW.out; have := HG46.out; omega)⟩ : TxMO w g a c L k (.returned (.agg (txA ⟨nm2, sq3, gas, fe, mm, M⟩ a2 c2))) _)
        generalize World.setRow _ g6 (txA ⟨nm2, sq3, gas, fe, mm, M⟩ a2 c2) = V9 at *
        clear hbt6 HS hg
        go_upto_region 12 with fail
        refine wl <| gz1 (.int .i64 z) <| gzb (geq_n rfl (z) (0) dF) <| wn ?_
        simp only [pu]
        go_upto_region 18 with fail
        refine wl <| gzl rfl ⟨g7, 0, none⟩ (.agg (txA ⟨nm2, sq3, gas, fe, mm, M⟩ a2 c2)) (HLD.out) <| gzs rfl (hstz) <| wn ?_
        simp only [pu]
        go_wp2_with fail
        exact bodyPost_ret (results_1c (p := 6) rfl (by kernel_rfl) (load_txb hZ)) rfl HE.out
end Go.Proofs.YtglglhcnofbagaaGreat
namespace Go.Proofs.YtglglhcnofbagaaGreat.Lg
open Go.RowKit
set_option linter.unusedSimpArgs false
set_option linter.unusedVariables false

/-- The order of strings. -/
def ltS (a b : ByteArray) : Bool := decide (a.data.toList < b.data.toList)
theorem bl_dec : ∀ (x y : List UInt8), Op.bytesLess x y = decide (x < y)
 | [], [] => by simp [Op.bytesLess]
 | _ :: _, [] => by simp [Op.bytesLess]
 | [], _ :: _ => by simp [Op.bytesLess]
 | a :: x, b :: y => by
  unfold Op.bytesLess
  rw [bl_dec x y, Bool.eq_iff_iff]
  simp only [Bool.or_eq_true, Bool.and_eq_true, decide_eq_true_eq, beq_iff_eq, List.cons_lt_cons_iff]
theorem toL_d (a : ByteArray) : a.toList = a.data.toList := Lib.toList_data a
theorem bl_lt (a b : ByteArray) : Op.bytesLess a.toList b.toList = ltS a b := by rw [bl_dec, toL_d, toL_d]; rfl
theorem eqB (a b : ByteArray) : (a.toList == b.toList) = decide (a = b) := by
 rw [toL_d, toL_d]
 by_cases h : a = b
 ·subst h; simp
 ·rw [decide_eq_false h, beq_eq_false_iff_ne]
  intro e
  exact h (ByteArray.ext (Array.toList_inj.1 e))
theorem beqB (a b : ByteArray) : (a == b) = decide (a = b) := by rw [beq_toListBytes, eqB]
theorem ltS_irr (a : ByteArray) : ltS a a = false := decide_eq_false (List.lt_irrefl _)
theorem ltS_tr {a b c : ByteArray} (h : ltS a b = true) (g : ltS b c = true) : ltS a c = true := decide_eq_true (List.lt_trans (of_decide_eq_true h) (of_decide_eq_true g))
theorem ltS_as {a b : ByteArray} (h : ltS a b = true) : ltS b a = false := by
 rw [Bool.eq_false_iff]
 intro g
 have := ltS_tr h g
 rw [ltS_irr] at this
 cases this
theorem ltS_ne {a b : ByteArray} (h : ltS a b = true) : a ≠ b := by
 rintro rfl
 rw [ltS_irr] at h
 cases h
theorem ltS_tot {a b : ByteArray} (h : ltS a b = false) (hn : a ≠ b) : ltS b a = true := by
 refine decide_eq_true ?_
 have h1 : ¬ a.data.toList < b.data.toList := of_decide_eq_false h
 have h2 : b.data.toList ≤ a.data.toList := List.not_lt.1 h1
 rcases List.le_iff_lt_or_eq.1 h2 with h3 | h3
 ·exact h3
 ·exact absurd (ByteArray.ext (Array.toList_inj.1 h3)).symm hn
theorem lss_s {ρ : Operand → Value} {o : Oper} {x y : Operand} (ho : o.op = .binOp .lss 9 x y 9) (a b : ByteArray) {t : Bool} (ht : ltS a b = t) (hx : ρ x = .string a) (hy : ρ y = .string b) (w : World) : (execOp ρ o).run Tryz.prog w = .ok (.value (.bool t)) w := by
 have e : Op.bytesLess a.toList b.toList = t := (bl_lt a b).trans ht
 unfold execOp
 simp only [ho, hx, hy]
 go_simp
theorem gtr_s {ρ : Operand → Value} {o : Oper} {x y : Operand} (ho : o.op = .binOp .gtr 9 x y 9) (a b : ByteArray) {t : Bool} (ht : ltS b a = t) (hx : ρ x = .string a) (hy : ρ y = .string b) (w : World) : (execOp ρ o).run Tryz.prog w = .ok (.value (.bool t)) w := by
 have e : (!(Op.bytesLess a.toList b.toList || a.toList == b.toList)) = t := by
  rw [bl_lt, eqB, ← ht]
  by_cases h : ltS a b = true
  ·rw [h, ltS_as h]; rfl
  ·have h1 : ltS a b = false := by simpa using h
   by_cases h2 : a = b
   ·subst h2; rw [ltS_irr]; simp
   ·rw [h1, ltS_tot h1 h2, decide_eq_false h2]; rfl
 unfold execOp
 simp only [ho, hx, hy]
 go_simp

end Go.Proofs.YtglglhcnofbagaaGreat.Lg
