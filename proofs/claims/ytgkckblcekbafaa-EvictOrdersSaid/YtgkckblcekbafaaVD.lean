/-
 The program's Select: contract.
-/
import Derived.Test.YtgkckblcekbafaaVC
namespace Go.Proofs.Ytgkckblcekbafaa
attribute [local irreducible] wpList wpQuiet
open Go.RowKit
set_option maxRecDepth 100000
set_option linter.unusedSimpArgs false
set_option linter.unusedVariables false

/-- One key more; a box of another type is as it was. -/
theorem grow_kx {w : World} {B : Nat} {v : Value} {A : List (Nat → Int)} (h : Rowky w B v A) (hB : B ≤ w.heap.size) (k : Nat → Int) (hl : A.length ≤ 100000) {g t : Nat} {cs : Array Value} (hX : Bx w g cs t) (ht : t ≠ 47) :
  ∃ v2 V2, (Builtin.append_ #[39, 39] 39 #[v, .slice (some ⟨w.heap.size, 0, none⟩) 1 1]).run Try.prog (w.alloc (.cells (kcA k) 47)) = .ok v2 V2 ∧ Rowky V2 B v2 (A ++ [k]) ∧ Below B w V2 ∧ Bx V2 g cs t := by
 have hb : Below w.heap.size w (w.alloc (.cells (kcA k) 47)) := (Below.refl _ w).alloc (Nat.le_refl _) _
 have hc : Cs (w.alloc (.cells (kcA k) 47)) (some ⟨w.heap.size, 0, none⟩) (kys [k]) := by
  have := Cs.block (cs := kcl k) (t := 47) (fr := (0, 0)) (heap_alloc_last w (.cells (kcA k) 47))
  unfold kys
  simpa using this
 obtain ⟨v2, V2, hr, hO, h3⟩ := app_at (P := Try.prog) (t := 39) (m := 1) Try.underlying39 infoKy (by kernel_rfl) (by omega) (by omega) (h.below hb) (some ⟨w.heap.size, 0, none⟩) 1 (kys [k]) hc (kys_len [k]) (kys_one [k]) (Nat.le_trans hB hb.size) hl (by omega)
 obtain ⟨a, c, rfl, -, -⟩ := own_cs h
 have hne := own_box h hX ht
 refine ⟨v2, V2, hr, ?_, (hb.mono hB).trans h3.1, ?_⟩
 ·unfold Rowky
  rw [kys_app, List.length_append]
  exact hO
 ·refine (h3.2.1.block g (hX.below hX.lt hb).lt (fun e => ?_)).trans (hX.below hX.lt hb)
  unfold Value.ownBlock at e
  cases a with
  | none => simp at e
  | some y => simp at e; exact hne y rfl e.symm
section
variable {ρ : Operand → Value} {o : Oper} {x y : Operand}
theorem max_i (ho : o.op = .call { callee := .builtin .max, args := #[x, y], argTypes := #[3, 3] }) (a b : Int) (hx : ρ x = .int .i64 a) (hy : ρ y = .int .i64 b) (w : World) : (execOp ρ o).run Try.prog w = .ok (.value (.int .i64 (max a b))) w := by
 unfold execOp
 simp only [ho, hx, hy, resolve, invoke, builtin, Sem.run_bind, Sem.run_pure, Result.andThen_ok, List.map_toArray, List.map_cons, List.map_nil]
 simp [go_sem]
 by_cases hab : a < b
 ·rw [if_pos hab, Int.max_eq_right (by omega)]
 ·rw [if_neg hab, Int.max_eq_left (by omega)]
end
/-- Keys that a call answers. -/
def KyO (w w' : World) (v : Value) (K : List (Nat → Int)) : Prop := ∃ a c, v = .slice a K.length c ∧ Cs w' a (kys K) ∧ Below w.heap.size w w'
theorem KyO.nil {w w' : World} (hb : Below w.heap.size w w') : KyO w w' (.slice none 0 0) [] := ⟨none, 0, rfl, Cs.nil _ _, hb⟩
theorem KyO.own {w w' : World} {B : Nat} {v : Value} {K : List (Nat → Int)} (h : Rowky w' B v K) (hb : Below w.heap.size w w') : KyO w w' v K := by
 obtain ⟨a, c, e, h1, -⟩ := own_cs h
 exact ⟨a, c, e, h1, hb⟩
theorem vic_at {O : List En} {pri sz mt mb : Int} {k : Nat} (hk : k ≤ O.length) (h0 : ∀ j, j < k → stpJ O pri sz mt mb j = false) (h1 : k < O.length → stpJ O pri sz mt mb k = true) : vicN O pri sz mt mb = k ∧ vicB O pri sz mt mb = fitJ O sz mt mb k ∧ vicK O pri sz mt mb = if fitJ O sz mt mb k then (O.take k).map En.k else [] := by
 have e : vicN O pri sz mt mb = k := fw_eq hk h0 h1
 refine ⟨e, by unfold vicB; rw [e], ?_⟩
 unfold vicK vicB
 rw [e]
theorem take_k (O : List En) (i : Nat) (hi : i < O.length) : (O.take (i + 1)).map En.k = (O.take i).map En.k ++ [(O.getD i zEn).k] := by
 rw [← take_snoc O i hi, List.map_append, List.getD_eq_getElem?_getD, List.getElem?_eq_getElem hi]
 rfl
theorem raw_take (O : List En) (i : Nat) : rawL (O.take i) ≤ rawL O := raw_sub (List.take_sublist ..)
set_option maxRecDepth 100000 in
set_option maxHeartbeats 8000000 in
theorem q_select {w : World} {a : Option Addr} {c : Nat} {X : List (En × Ad)} (h : Xr w a X) (hl : X.length ≤ 100000) (hr : rawL (lE X) ≤ 40000000) (pri sz mt mb : Int) (hm : mb < 9223372036854775808) : Calls Try.prog 16 #[.slice a X.length c, .int .u64 pri, .int .i64 sz, .int .i64 mt, .int .i64 mb] w fun e w' => ∃ v, e = .returned (.tuple #[v, .bool (vicB (ordL (lE X)) pri (max sz 0) mt mb)]) ∧ KyO w w' v (vicK (ordL (lE X)) pri (max sz 0) mt mb) := by
 have HTO : Hid (∀ V, Below w.heap.size w V → Calls Try.prog 26 #[.slice a X.length c] V fun e w' => e = .returned (.int .i64 (rawL (lE X))) ∧ Below V.heap.size V w') := Lib.hid fun V hV => q_total (h.below hV) hl hr
 have HLV : Hid (∀ V, Below w.heap.size w V → Calls Try.prog 24 #[.slice a X.length c] V fun e w' => ∃ v, e = .returned v ∧ Rowee w' V.heap.size v (ordX X) ∧ Below V.heap.size V w') := Lib.hid fun V hV => q_leav (h.below hV) hl
 have hol := ord_len X
 have hlo := lE_ord X
 have hle := lE_at (ordX X)
 have hll := lE_len (ordX X)
 rw [hlo] at hle hll
 have hrl : rawL (ordL (lE X)) = rawL (lE X) := by
  rw [← hlo]
  exact raw_perm ((ord_perm X).map _)
 obtain ⟨s, hs⟩ : ∃ s, max sz 0 = s := ⟨_, rfl⟩
 have HS : Hid (max sz 0 = s ∧ 0 ≤ s ∧ mb < 9223372036854775808) := Lib.hid ⟨hs, by omega, hm⟩
 obtain ⟨R, hR⟩ : ∃ R, rawL (lE X) = R := ⟨_, rfl⟩
 obtain ⟨O, hO⟩ : ∃ O, ordL (lE X) = O := ⟨_, rfl⟩
 obtain ⟨Y, hY⟩ : ∃ Y, ordX X = Y := ⟨_, rfl⟩
 obtain ⟨n, hn⟩ : ∃ n, X.length = n := ⟨_, rfl⟩
 have HOE : Hid (∀ i, i < n → O.getD i zEn = (Y.getD i zEA).1) := Lib.hid fun i hi => by rw [← hO, ← hY]; exact hle i (by omega)
 rw [hR] at HTO hr hrl
 rw [hO] at hll hrl ⊢
 rw [hY] at HLV hll hol
 rw [hn] at HTO HLV hol hl ⊢
 rw [hs]
 have HN : Hid (n ≤ 100000 ∧ O.length = n ∧ Y.length = n ∧ R ≤ 40000000 ∧ rawL O = R) := Lib.hid ⟨hl, by omega, by omega, hr, hrl⟩
 clear h hl hr hm hol hlo hle hll hrl hs hR hO hY hn
 go_enter Try.func16, Try.ntmps16
 go_upto_region 1 with fail
 change Code.wp _ _ _ _ (((w.alloc (.cells #[.int .i64 sz] 3)).alloc (.cells #[.int .i64 mt] 3)).alloc (.cells #[.int .i64 mb] 3))
 have hb_0 : Below w.heap.size w (w.alloc (.cells #[.int .i64 sz] 3)) := (Below.refl _ w).alloc (Nat.le_refl _) _
 have hX7 : Bx (w.alloc (.cells #[.int .i64 sz] 3)) w.heap.size #[.int .i64 sz] 3 := heap_alloc_last w _
 have hs_0 : (w.alloc (.cells #[.int .i64 sz] 3)).heap.size = w.heap.size + 1 := by simp
 generalize w.alloc (.cells #[.int .i64 sz] 3) = W0_ at *
 have hb_1 : Below w.heap.size w (W0_.alloc (.cells #[.int .i64 mt] 3)) := hb_0.alloc hb_0.size _
 have hX7 := hX7.below hX7.lt ((Below.refl _ W0_).alloc (Nat.le_refl _) (.cells #[.int .i64 mt] 3))
 have hX8 : Bx (W0_.alloc (.cells #[.int .i64 mt] 3)) W0_.heap.size #[.int .i64 mt] 3 := heap_alloc_last W0_ _
 have hs_1 : (W0_.alloc (.cells #[.int .i64 mt] 3)).heap.size = W0_.heap.size + 1 := by simp
 generalize W0_.alloc (.cells #[.int .i64 mt] 3) = W1_ at *
 have hb_2 : Below w.heap.size w (W1_.alloc (.cells #[.int .i64 mb] 3)) := hb_1.alloc hb_1.size _
 have hX7 := hX7.below hX7.lt ((Below.refl _ W1_).alloc (Nat.le_refl _) (.cells #[.int .i64 mb] 3))
 have hX8 := hX8.below hX8.lt ((Below.refl _ W1_).alloc (Nat.le_refl _) (.cells #[.int .i64 mb] 3))
 have hX9 : Bx (W1_.alloc (.cells #[.int .i64 mb] 3)) W1_.heap.size #[.int .i64 mb] 3 := heap_alloc_last W1_ _
 have hs_2 : (W1_.alloc (.cells #[.int .i64 mb] 3)).heap.size = W1_.heap.size + 1 := by simp
 generalize W1_.alloc (.cells #[.int .i64 mb] 3) = W at *
 obtain ⟨g7, hg7⟩ : ∃ g, w.heap.size = g := ⟨_, rfl⟩
 rw [hg7] at hX7
 obtain ⟨g8, hg8⟩ : ∃ g, W0_.heap.size = g := ⟨_, rfl⟩
 rw [hg8] at hX8
 obtain ⟨g9, hg9⟩ : ∃ g, W1_.heap.size = g := ⟨_, rfl⟩
 rw [hg9] at hX9
 have hq1 : w.heap.size + 1 = g8 := by omega
 have hq2 : w.heap.size + 2 = g9 := by omega
 have HGE : Hid (g7 = w.heap.size + 0 ∧ g8 = w.heap.size + 1 ∧ g9 = w.heap.size + 2 ∧ W.heap.size = w.heap.size + 3) := Lib.hid ⟨by omega, by omega, by omega, by omega⟩
 have HB := Lib.hid hb_2
 simp only [hg7]
 try simp only [show g7 + 1 = g8 by omega]
 try simp only [show g8 + 1 = g9 by omega]
 clear hb_0 hs_0 hg7 hb_1 hs_1 hg8 hb_2 hs_2 hg9 hq1 hq2
 obtain ⟨W2, hst2, hX7b, hbt2⟩ := st_fld #[.int .i64 s] hX7 (i := 0) (v := .int .i64 s) (ty := 3) (by simp) rfl rfl (by kernel_rfl)
 have hX8b := hX8.but hbt2 (by have := HGE.out; omega)
 have hX9b := hX9.but hbt2 (by have := HGE.out; omega)
 have HB2 : Hid (Below w.heap.size w W2 ∧ W.heap.size ≤ W2.heap.size) := Lib.hid ⟨HB.out.trans (hbt2.below (by have := HGE.out; omega)), hbt2.1.size⟩
 clear hbt2 hX8 hX9
 refine wl <| gzl rfl ⟨g7, 0, none⟩ (.int .i64 sz) (rg_cell (bx_range (cs := [.int .i64 sz]) hX7) (j := 0) rfl (by kernel_rfl)) <| gzv (.int .i64 s) (by rw [← HS.out.1]; exact max_i rfl sz 0 (by kernel_rfl) (by kernel_rfl) _) <| gzs rfl (hst2) <| wn ?_
 simp only [pu]
 clear hst2 hX7
 have HBX : Hid (∀ V, Below W2.heap.size W2 V → Bx V g8 #[.int .i64 mt] 3 ∧ Bx V g7 #[.int .i64 s] 3 ∧ Bx V g9 #[.int .i64 mb] 3) := Lib.hid fun V hV => ⟨hX8b.below hX8b.lt hV, hX7b.below hX7b.lt hV, hX9b.below hX9b.lt hV⟩
 clear hX7b hX8b hX9b
 have hto := HTO.out W2 HB2.out.1
 go_upto_region 2 with fail
 refine wl <| gz2 (.func (.func 25) #[] #[.pointer (some ⟨g8, 0, none⟩), .pointer (some ⟨g7, 0, none⟩), .pointer (some ⟨g9, 0, none⟩)]) (.func (.func 25) #[] #[.pointer (some ⟨g8, 0, none⟩), .pointer (some ⟨g7, 0, none⟩), .pointer (some ⟨g9, 0, none⟩)]) <| wn ?_
 simp only [pu]
 go_upto_region 3 with fail
 refine wl <| gz3 (.slice a n c) (.int .i64 n) (.slice a n c) <| gzc (.int .i64 R) (fun w' => Below W2.heap.size W2 w') (hto) (fun W3 hW3 => ?_)
 simp only [pu]
 refine gz2 (.int .i64 n) (.int .i64 R) <| wn ?_
 simp only [pu]
 have HB3 := Lib.hid hW3
 clear hto hW3
 have hlv := HLV.out W3 (HB2.out.1.trans (HB3.out.mono HB2.out.1.size))
 go_upto_region 4 with fail
 refine wl <| gz1 (.slice none 0 0) <| wn ?_
 simp only [pu]
 go_upto_region 5 with fail
 refine wl <| gz1 (.slice a n c) <| gze (fun v w' => Rowee w' W3.heap.size v Y ∧ Below W3.heap.size W3 w') (hlv) (fun v9 V1 hV1 => ?_)
 obtain ⟨hr1, hb1⟩ := hV1
 obtain ⟨a9, c9, rfl, hcs, -⟩ := hr1.cs
 rw [HN.out.2.2.1] at hr1 ⊢
 simp only [pu]
 refine gz2 (.int .i64 n) (.int .i64 0) <| wn ?_
 simp only [pu]
 have HRG : Hid (∀ V, Below V1.heap.size V1 V → ∀ i, i < n → ∃ b off, a9 = some ⟨b, off, none⟩ ∧ V.rangeAt b (off + i * 41) (enp (Y.getD i zEA))) := Lib.hid fun V hV i hi => by
  obtain ⟨b, off, e1, -, h2⟩ := fl_range enp enp_len (by omega) zEA (hcs.below hV) (i := i) (by rw [HN.out.2.2.1]; exact hi)
  exact ⟨b, off, e1, h2⟩
 have HB4 : Hid (Below W2.heap.size W2 V1 ∧ Below w.heap.size w V1) := Lib.hid ⟨HB3.out.trans (hb1.mono HB3.out.size), (HB2.out.1.trans (HB3.out.mono HB2.out.1.size)).trans (hb1.mono (by have := HB3.out.size; have := HB2.out.1.size; omega))⟩
 clear hlv hr1 hb1 hcs HLV HTO
 go_wp2_with fail
 go_loopg [13, 14, 15, 28] n (fun gg s13 s14 s15 s28 wx => ∃ (i cn bt : Nat) (v : Value), s28 = .int .i64 i ∧ s13 = .int .i64 cn ∧ s14 = .int .i64 bt ∧ s15 = v ∧ i ≤ n ∧ gg + i = n ∧ Hid (cn = n - i ∧ bt = R - rawL (O.take i)) ∧ Hid ((∀ j, j < i → stpJ O pri s mt mb j = false) ∧ Rowky wx V1.heap.size v ((O.take i).map En.k) ∧ Below V1.heap.size V1 wx))
 case atStart => exact ⟨0, n, R, _, rfl, rfl, rfl, rfl, by omega, by omega, Lib.hid ⟨rfl, by simp [rawL]⟩, Lib.hid ⟨fun j h => by omega, World.ownsRow_nil _ _ _ _, Below.refl _ _⟩⟩
 case round =>
  obtain ⟨i, cn, bt, v, rfl, rfl, rfl, rfl, hin, hg, HC, HR⟩ := hrel
  have HGK : Hid (gk + i = n) := Lib.hid hg
  have HI := Lib.hid hin
  clear hg
  by_cases hlt : i < n
  ·skip
   obtain ⟨b, off, hbb, hrg⟩ := HRG.out wr HR.out.2.2 i hlt
   obtain rfl := hbb
   have hoe := HOE.out i hlt
   obtain ⟨x, hx⟩ : ∃ x, Y.getD i zEA = x := ⟨_, rfl⟩
   rw [hx] at hrg hoe
   have HX := Lib.hid hoe
   obtain ⟨V2, hst2, hb2, hX17⟩ := new_bx (c := enA zEn zAd) (c' := enA x.1 x.2) (ty := 50) wr rfl (enA_one _ _) (by kernel_rfl)
   have HBW := Lib.hid hb2
   have HBV : Hid (Below V1.heap.size V1 V2) := Lib.hid (HR.out.2.2.trans (hb2.mono HR.out.2.2.size))
   obtain ⟨g17, hg17⟩ : ∃ g, wr.heap.size = g := ⟨_, rfl⟩
   rw [hg17] at hX17
   clear hoe hx hb2
   go_upto_region 6 with fail
   refine wl <| gzb (lss_n rfl (i) (n) dT) <| wn ?_
   simp only [pu]
   go_upto_region 7 with fail
   refine wl <| gzv (.pointer (some ⟨b, off + i * 41, none⟩)) (idx_en b off n c9 i hlt _ _ _ rfl (by kernel_rfl) (by kernel_rfl)) <| gzl rfl ⟨b, off + i * 41, none⟩ (.agg (enA x.1 x.2)) (load_en hrg) ?_
   simp only [pu]
   refine run_to rfl (some 17) rfl (.pointer (some ⟨wr.heap.size, 0, none⟩)) (wr.alloc (.cells (enA zEn zAd) 50)) (by kernel_rfl) ?_
   simp only [pu]
   refine gzs rfl (hst2) <| wn ?_
   rw [hg17]
   clear hst2 hrg hg17
   have hbx := HBX.out V2 (HB4.out.1.trans (HBV.out.mono HB4.out.1.size))
   have hft := q_fits (w := V2) hbx.1 hbx.2.1 hbx.2.2 cn bt HS.out.2.1 HS.out.2.2
   rw [show fitB s mt mb cn bt = fitJ O s mt mb i by unfold fitJ; rw [HN.out.2.1, HN.out.2.2.2.2, HC.out.1, HC.out.2]] at hft
   clear hbx
   cases hf : fitJ O s mt mb i with
   | true =>
    rw [hf] at hft
    go_upto_region 8 with fail
    refine wl <| gz3 (.func (.func 25) #[] #[.pointer (some ⟨g8, 0, none⟩), .pointer (some ⟨g7, 0, none⟩), .pointer (some ⟨g9, 0, none⟩)]) (.int .i64 cn) (.int .i64 bt) <| gzc (.bool true) (fun w' => V2 = w') (hft) (fun V9 hV9 => ?_)
    subst hV9
    simp only [pu]
    refine gz6 (.bool true) undef undef undef undef (.bool true) <| wn ?_
    simp only [pu]
    clear hft hX17
    have hf9 := hf
    have hst := stp_iff.2 (.inl hf : fitJ O s mt mb i = true ∨ pri ≤ (O.getD i zEn).pri)
    clear hf
    obtain ⟨-, hvb, hvk⟩ := vic_at (O := O) (pri := pri) (sz := s) (mt := mt) (mb := mb) (k := i) (by rw [HN.out.2.1]; exact HI.out) HR.out.1 (by rw [HN.out.2.1]; exact fun _ => hst)
    have HVB := Lib.hid hvb
    have HVK := Lib.hid hvk
    clear hvb hvk hst
    have hbx := HBX.out V2 (HB4.out.1.trans (HBV.out.mono HB4.out.1.size))
    have hft := q_fits (w := V2) hbx.1 hbx.2.1 hbx.2.2 cn bt HS.out.2.1 HS.out.2.2
    rw [show fitB s mt mb cn bt = fitJ O s mt mb i by unfold fitJ; rw [HN.out.2.1, HN.out.2.2.2.2, HC.out.1, HC.out.2]] at hft
    clear hbx
    rw [hf9] at hft
    have HF9 := Lib.hid hf9
    clear hf9
    go_upto_region 13 with fail
    refine wl <| gz3 (.func (.func 25) #[] #[.pointer (some ⟨g8, 0, none⟩), .pointer (some ⟨g7, 0, none⟩), .pointer (some ⟨g9, 0, none⟩)]) (.int .i64 cn) (.int .i64 bt) <| gzc (.bool true) (fun w' => V2 = w') (hft) (fun V9 hV9 => ?_)
    subst hV9
    simp only [pu]
    refine gz1 (.bool false) <| wn ?_
    simp only [pu]
    clear hft
    have HE : Hid (KyO w V2 u15 (vicK O pri s mt mb)) := Lib.hid (by rw [HVK.out, HF9.out]; exact KyO.own (HR.out.2.1.below HBW.out) (HB4.out.2.trans (HBV.out.mono HB4.out.2.size)))
    go_upto_region 15 with fail
    refine wl <| gz3 (u15) (u15) (.bool true) <| wn ?_
    simp only [pu]
    go_wp2_with fail
    go_ret2
    exact ⟨u15, congrArg (fun q => Ending.returned (Value.tuple #[u15, Value.bool q])) (HVB.out.trans HF9.out).symm, HE.out⟩
   | false =>
    rw [hf] at hft
    by_cases hp : pri ≤ x.1.pri
    ·skip
     go_upto_region 8 with fail
     refine wl <| gz3 (.func (.func 25) #[] #[.pointer (some ⟨g8, 0, none⟩), .pointer (some ⟨g7, 0, none⟩), .pointer (some ⟨g9, 0, none⟩)]) (.int .i64 cn) (.int .i64 bt) <| gzc (.bool false) (fun w' => V2 = w') (hft) (fun V9 hV9 => ?_)
     subst hV9
     simp only [pu]
     refine gz2 (.bool false) (.pointer (some ⟨g17, 36, none⟩)) <| gzl rfl ⟨g17, 36, none⟩ (.int .u64 x.1.pri) (rg_cell (bx_range hX17) (j := 36) rfl (by kernel_rfl)) <| gz1 (.int .u64 pri) <| gzb (geq_w rfl x.1.pri pri (decide_eq_true hp)) <|
      gz1 (.bool true) <| wn ?_
     simp only [pu]
     clear hft hX17
     have hf9 := hf
     have hst := stp_iff.2 (.inr (by rw [HX.out]; exact hp) : fitJ O s mt mb i = true ∨ pri ≤ (O.getD i zEn).pri)
     clear hf
     obtain ⟨-, hvb, hvk⟩ := vic_at (O := O) (pri := pri) (sz := s) (mt := mt) (mb := mb) (k := i) (by rw [HN.out.2.1]; exact HI.out) HR.out.1 (by rw [HN.out.2.1]; exact fun _ => hst)
     have HVB := Lib.hid hvb
     have HVK := Lib.hid hvk
     clear hvb hvk hst hp
     have hbx := HBX.out V2 (HB4.out.1.trans (HBV.out.mono HB4.out.1.size))
     have hft := q_fits (w := V2) hbx.1 hbx.2.1 hbx.2.2 cn bt HS.out.2.1 HS.out.2.2
     rw [show fitB s mt mb cn bt = fitJ O s mt mb i by unfold fitJ; rw [HN.out.2.1, HN.out.2.2.2.2, HC.out.1, HC.out.2]] at hft
     clear hbx
     rw [hf9] at hft
     have HF9 := Lib.hid hf9
     clear hf9
     go_upto_region 13 with fail
     refine wl <| gz3 (.func (.func 25) #[] #[.pointer (some ⟨g8, 0, none⟩), .pointer (some ⟨g7, 0, none⟩), .pointer (some ⟨g9, 0, none⟩)]) (.int .i64 cn) (.int .i64 bt) <| gzc (.bool false) (fun w' => V2 = w') (hft) (fun V9 hV9 => ?_)
     subst hV9
     simp only [pu]
     refine gz1 (.bool true) <| wn ?_
     simp only [pu]
     clear hft
     have HE : Hid (KyO w V2 (.slice none 0 0) (vicK O pri s mt mb)) := Lib.hid (by rw [HVK.out, HF9.out]; exact KyO.nil (HB4.out.2.trans (HBV.out.mono HB4.out.2.size)))
     go_upto_region 14 with fail
     refine wl <| gz2 (.slice none 0 0) (.bool false) <| wn ?_
     simp only [pu]
     go_wp2_with fail
     go_ret2
     exact ⟨_, congrArg (fun q => Ending.returned (Value.tuple #[.slice none 0 0, Value.bool q])) (HVB.out.trans HF9.out).symm, HE.out⟩
    ·skip
     go_upto_region 8 with fail
     refine wl <| gz3 (.func (.func 25) #[] #[.pointer (some ⟨g8, 0, none⟩), .pointer (some ⟨g7, 0, none⟩), .pointer (some ⟨g9, 0, none⟩)]) (.int .i64 cn) (.int .i64 bt) <| gzc (.bool false) (fun w' => V2 = w') (hft) (fun V9 hV9 => ?_)
     subst hV9
     simp only [pu]
     refine gz2 (.bool false) (.pointer (some ⟨g17, 36, none⟩)) <| gzl rfl ⟨g17, 36, none⟩ (.int .u64 x.1.pri) (rg_cell (bx_range hX17) (j := 36) rfl (by kernel_rfl)) <| gz1 (.int .u64 pri) <| gzb (geq_w rfl x.1.pri pri (decide_eq_false hp)) <|
      gz1 (.bool false) <| wn ?_
     simp only [pu]
     clear hft
     have HST : Hid (stpJ O pri s mt mb i = false) := Lib.hid (stp_no.2 ⟨hf, by rw [HX.out]; omega⟩)
     clear hf hp
     obtain ⟨v2, V3, hap, hO3, hb3, hX18⟩ := grow_kx (HR.out.2.1.below HBW.out) HBV.out.size x.1.k (by rw [List.length_map, List.length_take]; have := HN.out; omega) hX17 (by decide)
     rw [show (O.take i).map En.k ++ [x.1.k] = (O.take (i + 1)).map En.k by rw [take_k O i (by rw [HN.out.2.1]; exact hlt), HX.out]] at hO3
     have hq := raw_step O i (by rw [HN.out.2.1]; exact hlt)
     have hq2 := raw_take O (i + 1)
     rw [HX.out] at hq
     rw [HN.out.2.2.2.2] at hq2
     have HQ : Hid (rawL (O.take (i + 1)) = rawL (O.take i) + x.1.raw.length ∧ rawL (O.take (i + 1)) ≤ R) := Lib.hid ⟨hq, hq2⟩
     have HR3 : Hid ((∀ j, j < i + 1 → stpJ O pri s mt mb j = false) ∧ Rowky V3 V1.heap.size v2 ((O.take (i + 1)).map En.k) ∧ Below V1.heap.size V1 V3) := Lib.hid ⟨fun j hj => by
      rcases Nat.lt_or_ge j i with h3 | h3
      ·exact HR.out.1 j h3
      ·obtain rfl : j = i := by omega
       exact HST.out, hO3, HBV.out.trans hb3⟩
     clear hO3 hb3 hq hq2
     go_upto_region 9 with fail
     refine wl <| gz2 (u15) (.pointer (some ⟨g17, 0, none⟩)) <| gzl rfl ⟨g17, 0, none⟩ (.agg (kcA x.1.k)) (load_ky (bx_range hX17)) ?_
     simp only [pu]
     refine gw_build (by kernel_rfl) (some 45) rfl 39 1 #[(0, .tmp 44)] rfl #[(0, .agg (kcA x.1.k))] (by kernel_rfl) (.slice (some ⟨V2.heap.size, 0, none⟩) 1 1) _ (build_ky x.1.k V2) ?_
     simp only [pu]
     refine append_step rfl (some 46) rfl 39 rfl (.tmp 42) (.tmp 45) 39 rfl u15 (.slice (some ⟨V2.heap.size, 0, none⟩) 1 1) v2 V3 (by kernel_rfl) (by kernel_rfl) hap ?_
     simp only [pu]
     refine gz1 (v2) <| wn ?_
     simp only [pu]
     clear hap
     skip
     go_upto_region 10 with fail
     refine wl <| gz1 (.int .i64 cn) <| gzw (.int .i64 ((cn - 1 : Nat) : Int)) (sub_nn rfl cn 1 (by have := HC.out; have := HGK.out; omega) (by have := HC.out; have := HN.out; omega)) <| gz1 (.int .i64 ((cn - 1 : Nat) : Int)) <| wn ?_
     simp only [pu]
     go_upto_region 11 with fail
     refine wl <| gz2 (.int .i64 bt) (.pointer (some ⟨g17, 32, none⟩)) <| gzl rfl ⟨g17, 32, none⟩ (.slice x.2.ra x.1.raw.length x.2.rc) (rg_cell (bx_range hX18) (j := 32) rfl (by kernel_rfl)) <| gz1 (.int .i64 x.1.raw.length) <|
      gzw (.int .i64 ((bt - x.1.raw.length : Nat) : Int)) (sub_nn rfl bt x.1.raw.length (by have := HC.out; have := HQ.out; omega) (by have := HC.out; have := HN.out; omega)) <| gz1 (.int .i64 ((bt - x.1.raw.length : Nat) : Int)) <| wn ?_
     simp only [pu]
     go_upto_region 12 with fail
     refine wl <| gzv (.int .i64 (i + 1 : Nat)) (add_one rfl i (by have := HN.out; omega) (by kernel_rfl) _) <| gz1 (.int .i64 (i + 1 : Nat)) <| wn ?_
     simp only [pu]
     go_wp2_with fail
     go_roundg (n - (i + 1))
     case measure => have := HGK.out; omega
     case rel => exact ⟨i + 1, cn - 1, bt - x.1.raw.length, _, rfl, rfl, rfl, rfl, by omega, by omega, Lib.hid ⟨by have := HC.out; omega, by have := HC.out; have := HQ.out; omega⟩, HR3⟩
  ·skip
   obtain rfl : i = n := by omega
   go_upto_region 6 with fail
   refine wl <| gzb (lss_n rfl (i) (i) dF) <| wn ?_
   simp only [pu]
   have HBW : Hid (Below wr.heap.size wr wr) := Lib.hid (Below.refl _ _)
   obtain ⟨-, hvb, hvk⟩ := vic_at (O := O) (pri := pri) (sz := s) (mt := mt) (mb := mb) (k := i) (by rw [HN.out.2.1]; exact HI.out) HR.out.1 (by rw [HN.out.2.1]; exact fun h => absurd h (Nat.lt_irrefl _))
   have HVB := Lib.hid hvb
   have HVK := Lib.hid hvk
   clear hvb hvk
   have hbx := HBX.out wr (HB4.out.1.trans (HR.out.2.2.mono HB4.out.1.size))
   have hft := q_fits (w := wr) hbx.1 hbx.2.1 hbx.2.2 cn bt HS.out.2.1 HS.out.2.2
   rw [show fitB s mt mb cn bt = fitJ O s mt mb i by unfold fitJ; rw [HN.out.2.1, HN.out.2.2.2.2, HC.out.1, HC.out.2]] at hft
   clear hbx
   cases hf9 : fitJ O s mt mb i with
   | true =>
    rw [hf9] at hft
    have HF9 := Lib.hid hf9
    clear hf9
    go_upto_region 13 with fail
    refine wl <| gz3 (.func (.func 25) #[] #[.pointer (some ⟨g8, 0, none⟩), .pointer (some ⟨g7, 0, none⟩), .pointer (some ⟨g9, 0, none⟩)]) (.int .i64 cn) (.int .i64 bt) <| gzc (.bool true) (fun w' => wr = w') (hft) (fun V9 hV9 => ?_)
    subst hV9
    simp only [pu]
    refine gz1 (.bool false) <| wn ?_
    simp only [pu]
    clear hft
    have HE : Hid (KyO w wr u15 (vicK O pri s mt mb)) := Lib.hid (by rw [HVK.out, HF9.out]; exact KyO.own HR.out.2.1 (HB4.out.2.trans (HR.out.2.2.mono HB4.out.2.size)))
    go_upto_region 15 with fail
    refine wl <| gz3 (u15) (u15) (.bool true) <| wn ?_
    simp only [pu]
    go_wp2_with fail
    go_ret2
    exact ⟨u15, congrArg (fun q => Ending.returned (Value.tuple #[u15, Value.bool q])) (HVB.out.trans HF9.out).symm, HE.out⟩
   | false =>
    rw [hf9] at hft
    have HF9 := Lib.hid hf9
    clear hf9
    go_upto_region 13 with fail
    refine wl <| gz3 (.func (.func 25) #[] #[.pointer (some ⟨g8, 0, none⟩), .pointer (some ⟨g7, 0, none⟩), .pointer (some ⟨g9, 0, none⟩)]) (.int .i64 cn) (.int .i64 bt) <| gzc (.bool false) (fun w' => wr = w') (hft) (fun V9 hV9 => ?_)
    subst hV9
    simp only [pu]
    refine gz1 (.bool true) <| wn ?_
    simp only [pu]
    clear hft
    have HE : Hid (KyO w wr (.slice none 0 0) (vicK O pri s mt mb)) := Lib.hid (by rw [HVK.out, HF9.out]; exact KyO.nil (HB4.out.2.trans (HR.out.2.2.mono HB4.out.2.size)))
    go_upto_region 14 with fail
    refine wl <| gz2 (.slice none 0 0) (.bool false) <| wn ?_
    simp only [pu]
    go_wp2_with fail
    go_ret2
    exact ⟨_, congrArg (fun q => Ending.returned (Value.tuple #[.slice none 0 0, Value.bool q])) (HVB.out.trans HF9.out).symm, HE.out⟩
end Go.Proofs.Ytgkckblcekbafaa
