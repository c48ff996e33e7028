/-
 The reference's ParseConfig: contract.
-/
import Derived.Test.YtplfineaomneiaaDoorRP
namespace Go.Proofs.YtplfineaomneiaaDoor
attribute [local irreducible] wpList wpQuiet
open Go.RowKit
set_option maxRecDepth 100000
set_option linter.unusedSimpArgs false
set_option linter.unusedVariables false

theorem results_ctt {fn : Func} {tmps : Array Value} {w : World} {p q r g ty : Nat} {v u x : Value} (hr : fn.results = #[.cell p ty, .tmp q, .tmp r]) (h2 : tmps.getD p undef = .pointer (some ⟨g, 0, none⟩)) (hl : (Instr.loadAt ty (.pointer (some ⟨g, 0, none⟩))).run Tryd.prog w = .ok v w) (h3 : tmps.getD q undef = u) (h4 : tmps.getD r undef = x) : (results fn tmps).run Tryd.prog w = .ok (.tuple #[v, u, x]) w := by
 unfold results
 rw [hr]
 have h2' : tmps[p]?.getD undef = .pointer (some ⟨g, 0, none⟩) := by simpa using h2
 have h3' : tmps[q]?.getD undef = u := by simpa using h3
 have h4' : tmps[r]?.getD undef = x := by simpa using h4
 have hl' := hl
 simp only [Instr.loadAt, Instr.sureAddr, Sem.run_bind, Sem.run_pure, Result.andThen_ok] at hl'
 simp [h2', h3', h4', asAddr, hl', Result.andThen]
theorem sta0 : StA #[.int .i64 0, .int .i64 0, .int .i64 0, .int .i64 0, .int .i64 0, .int .i64 0, .bool false, .int .i64 0, .int .i64 0, .int .u64 0, .int .i64 0, .int .i64 0] := sta zeroL
/-- What the walk over the lines keeps of the world. -/
structure PcW (w : World) (B5 g2 g7 : Nat) (a : Option Addr) (Ls : List ByteArray) (C : Array Value) (V : World) : Prop where
 b5 : B5 ≤ V.heap.size
 h2 : Bx V g2 #[.int .i64 0, .int .i64 0, .int .i64 0, .int .i64 0, .int .i64 0, .int .i64 0, .bool false, .int .i64 0, .int .i64 0, .int .u64 0, .int .i64 0, .int .i64 0] 24
 h7 : Bx V g7 C 24
 cs : Cs V a (strs Ls)
 bel : Below w.heap.size w V
structure PcG (w : World) (B5 g2 g7 : Nat) (a : Option Addr) (Ls : List ByteArray) : Prop where
 w2 : w.heap.size ≤ g2
 w7 : g2 < g7
 w5 : g7 < B5
 ne : Ls ≠ [] → ∀ x, a = some x → g7 < x.block ∧ x.block < B5
section
variable {w V V2 : World} {B5 g2 g7 : Nat} {a : Option Addr} {Ls : List ByteArray} {C C2 : Array Value}
theorem st_ne (h : strs Ls ≠ []) : Ls ≠ [] := fun e => h (by rw [e]; rfl)
theorem PcW.low (h : PcW w B5 g2 g7 a Ls C V) (G : PcG w B5 g2 g7 a Ls) (hb : Below B5 V V2) : PcW w B5 g2 g7 a Ls C V2 where
 b5 := Nat.le_trans h.b5 hb.size
 h2 := h.h2.below (Nat.lt_trans G.w7 G.w5) hb
 h7 := h.h7.below G.w5 hb
 cs := cs_same h.cs fun k hk => hb.block k (by obtain ⟨hn, x, hx, rfl⟩ := hk; exact (G.ne (st_ne hn) x hx).2)
 bel := h.bel.trans (hb.mono (by have := G.w2; have := G.w7; have := G.w5; omega))
theorem PcW.below (h : PcW w B5 g2 g7 a Ls C V) (G : PcG w B5 g2 g7 a Ls) (hb : Below V.heap.size V V2) : PcW w B5 g2 g7 a Ls C V2 := h.low G (hb.mono h.b5)
theorem PcW.st7 (h : PcW w B5 g2 g7 a Ls C V) (G : PcG w B5 g2 g7 a Ls) (hb : But g7 V V2) (hX : Bx V2 g7 C2 24) : PcW w B5 g2 g7 a Ls C2 V2 where
 b5 := Nat.le_trans h.b5 hb.1.size
 h2 := h.h2.but hb (by have := G.w7; omega)
 h7 := hX
 cs := cs_same h.cs fun k hk => hb.2 k (cs_rlt h.cs k hk) (by obtain ⟨hn, x, hx, rfl⟩ := hk; have := (G.ne (st_ne hn) x hx).1; omega)
 bel := h.bel.trans (hb.1.mono (by have := G.w2; have := G.w7; omega))
end
/-- What the region of the first key's place keeps. -/
def KI (W : World) (b0 : Bool) (x : Value) (V : World) : Prop := Below W.heap.size W V ∧ (b0 = true → ∃ gk, x = .slice (some ⟨gk, 0, none⟩) 12 12 ∧ Bx V gk (strs keysB).toArray 9)
theorem KI.start {W V : World} (hb : Below W.heap.size W V) (x : Value) : KI W false x V.drew := ⟨hb.drew, fun h => by cases h⟩
theorem KI.s0 {W V V2 : World} {b : Bool} {x : Value} {gk : Nat} (h : KI W b x V) (hx : Bx V2 gk (strs keysB).toArray 9) (hb : Below V.heap.size V V2) : KI W true (.slice (some ⟨gk, 0, none⟩) 12 12) V2 := ⟨h.1.trans (hb.mono h.1.size), fun _ => ⟨gk, rfl, hx⟩⟩
/-- What the region of 'set' keeps. -/
structure KS (W : World) (D : Array Value) (b9 b10 : Bool) (x : Value) (V : World) : Prop where
 bel : Below W.heap.size W V
 o10 : b10 = true → b9 = true
 bx : b9 = true → ∃ g, x = .pointer (some ⟨g, 0, none⟩) ∧ W.heap.size ≤ g ∧ (b10 = false → Bx V g #[.int .i64 0, .int .i64 0, .int .i64 0, .int .i64 0, .int .i64 0, .int .i64 0, .bool false, .int .i64 0, .int .i64 0, .int .u64 0, .int .i64 0, .int .i64 0] 24) ∧ (b10 = true → Bx V g D 24)
section
variable {W V V2 : World} {D : Array Value} {b9 b10 : Bool} {x : Value}
theorem KS.start (hb : Below W.heap.size W V) (D : Array Value) (x : Value) : KS W D false false x V.drew := ⟨hb.drew, fun h => by (cases h), fun h => by (cases h)⟩
theorem KS.call (h : KS W D b9 b10 x V) (hb : Below V.heap.size V V2) : KS W D b9 b10 x V2 := ⟨h.bel.trans (hb.mono h.bel.size), h.o10, fun h9 => by
 obtain ⟨g, h1, h2, h3, h4⟩ := h.bx h9
 exact ⟨g, h1, h2, fun q => (h3 q).below (h3 q).lt hb, fun q => (h4 q).below (h4 q).lt hb⟩⟩
theorem KS.n9 (h : KS W D false b10 x V) : b10 = false := by cases b10; rfl; exact absurd (h.o10 rfl) (by decide)
theorem KS.s9 (h : KS W D false false x V) : KS W D true false (.pointer (some ⟨V.heap.size, 0, none⟩)) (V.alloc (.cells #[.int .i64 0, .int .i64 0, .int .i64 0, .int .i64 0, .int .i64 0, .int .i64 0, .bool false, .int .i64 0, .int .i64 0, .int .u64 0, .int .i64 0, .int .i64 0] 24)) := ⟨h.bel.alloc h.bel.size _, fun q => by (cases q), fun _ => ⟨_, rfl, h.bel.size, fun _ => heap_alloc_last V _, fun q => by (cases q)⟩⟩
theorem KS.s10 {g : Nat} (h : KS W D true false (.pointer (some ⟨g, 0, none⟩)) V) (hge : W.heap.size ≤ g) (hb : But g V V2) (hX : Bx V2 g D 24) : KS W D true true (.pointer (some ⟨g, 0, none⟩)) V2 := ⟨h.bel.trans (hb.1.mono hge), fun _ => rfl, fun _ => ⟨g, rfl, hge, fun q => by (cases q), fun _ => hX⟩⟩
end
theorem r_lines2 (s : ByteArray) (hl : s.size ≤ 90000) (w : World) : Calls Tryd.prog 22 #[.string s] w fun e w' => ∃ v, e = .returned v ∧ ∃ S, RowS w' w.heap.size v S ∧ S.map nums = splitL [] (nums s) ∧ Below w.heap.size w w' := (r_lines s hl w).mono fun e w' z => by
 obtain ⟨v, S, h1, h2, h3, h4⟩ := z
 exact ⟨v, h1, S, h2, h3, h4⟩
theorem r_words2 (s : ByteArray) (hl : s.size ≤ 90000) (hv : runs (nums s) 0 ≠ none) (w : World) : Calls Tryd.prog 54 #[.string s] w fun e w' => ∃ v, e = .returned v ∧ ∃ S, RowS w' w.heap.size v S ∧ S.map nums = wrd (nums s) 0 [] ∧ Below w.heap.size w w' := (r_words s hl hv w).mono fun e w' z => by
 obtain ⟨v, S, h1, h2, h3, h4⟩ := z
 exact ⟨v, h1, S, h2, h3, h4⟩
theorem runsV_some (n : Nat) : runsV (some n) = .tuple #[.int .i64 n, .bool true] := rfl
theorem runsV_none : runsV none = .tuple #[.int .i64 0, .bool false] := rfl
theorem map_len {S : List ByteArray} {M : List (List Int)} (h : S.map nums = M) : S.length = M.length := by rw [← h, List.length_map]
theorem getD_memS {S : List ByteArray} {i : Nat} (h : i < S.length) : nums (S.getD i (⟨#[]⟩ : ByteArray)) ∈ S.map nums := by
 rw [← getD_nums S h, List.getD_eq_getElem?_getD, List.getElem?_eq_getElem (by rw [List.length_map]; exact h)]
 exact List.getElem_mem _
theorem two_of {S : List ByteArray} (h : S.length = 2) : S = [S.getD 0 (⟨#[]⟩ : ByteArray), S.getD 1 (⟨#[]⟩ : ByteArray)] := by
 match S, h with
 | [x, y], _ => rfl
set_option maxRecDepth 100000 in
set_option maxHeartbeats 8000000 in
theorem r_parse (s : ByteArray) (w : World) (hl0 : s.size ≤ 1000000) : Calls Tryd.prog 40 #[.string s] w fun e w' => e = .returned (parV (nums s)) ∧ Below w.heap.size w w' := by
 have HLL := Lib.hid (nums_len s)
 have CR := Lib.hid fun V => ref_runes s V (by omega)
 have CLN := Lib.hid fun h V => r_lines2 s h V
 have HLIM : Hid (4096 < s.size → .tuple #[.agg #[.int .i64 0, .int .i64 0, .int .i64 0, .int .i64 0, .int .i64 0, .int .i64 0, .bool false, .int .i64 0, .int .i64 0, .int .u64 0, .int .i64 0, .int .i64 0], .int .i64 0, .int .i64 3] = parV (nums s)) := Lib.hid fun h => parV_of (parX_lim (by rw [nums_len]; exact h))
 have HENC : Hid (¬ 4096 < s.size → runs (nums s) 0 = none → .tuple #[.agg #[.int .i64 0, .int .i64 0, .int .i64 0, .int .i64 0, .int .i64 0, .int .i64 0, .bool false, .int .i64 0, .int .i64 0, .int .u64 0, .int .i64 0, .int .i64 0], .int .i64 0, .int .i64 4] = parV (nums s)) := Lib.hid fun h h2 => parV_of (parX_enc (by rw [nums_len]; exact h) h2)
 obtain ⟨ZV, hZV⟩ : ∃ ZV, parV (nums s) = ZV := ⟨_, rfl⟩
 rw [hZV] at HLIM HENC ⊢
 have HZV := Lib.hid hZV
 clear hZV
 obtain ⟨L, hL⟩ : ∃ L, nums s = L := ⟨_, rfl⟩
 rw [hL] at HLL CR CLN HENC HZV
 clear hL
 obtain ⟨V0, hV0⟩ : ∃ V0, w.alloc (.cells #[.int .i64 0, .int .i64 0, .int .i64 0, .int .i64 0, .int .i64 0, .int .i64 0, .bool false, .int .i64 0, .int .i64 0, .int .u64 0, .int .i64 0, .int .i64 0] 24) = V0 := ⟨_, rfl⟩
 have hb0 : Below w.heap.size w V0 := by rw [← hV0]; exact (Below.refl _ w).alloc (Nat.le_refl _) _
 have hX2 : Bx V0 w.heap.size #[.int .i64 0, .int .i64 0, .int .i64 0, .int .i64 0, .int .i64 0, .int .i64 0, .bool false, .int .i64 0, .int .i64 0, .int .u64 0, .int .i64 0, .int .i64 0] 24 := by rw [← hV0]; exact heap_alloc_last w _
 obtain ⟨n, hn⟩ : ∃ n, s.size = n := ⟨_, rfl⟩
 rw [hn] at HLL CLN HLIM HENC hl0
 have A0 := Lib.hid sta0
 have HG2 : Hid (w.heap.size ≤ w.heap.size) := Lib.hid (Nat.le_refl _)
 go_enter Tryd.func40, Tryd.ntmps40
 go_upto_region 1 with fail
 obtain ⟨g2, hg2⟩ : ∃ g2, w.heap.size = g2 := ⟨_, rfl⟩
 have HB0 := Lib.hid hb0
 rw [hg2] at hX2
 simp only [hg2]
 have HW2 : Hid (w.heap.size = g2) := Lib.hid hg2
 clear hV0 hb0 hg2 HG2
 by_cases hlim : 4096 < n
 ·skip
  obtain rfl := HLIM.out hlim
  go_upto_region 1 with fail
  refine wl <| gz1 (.string s) <| gzv (.int .i64 n) (by rw [← hn]; kernel_rfl) <| gzb (gtr_n rfl (n) (4096) dT) <| wn ?_
  simp only [pu]
  obtain ⟨V9, hst9, hld9, -, hbt9⟩ := A0.out V0 g2 _ rfl hX2
  have HE := Lib.hid (HB0.out.trans (hbt9.1.mono (by have := HW2.out; omega)))
  go_upto_region 2 with fail
  refine wl <| gz1 (.agg #[.int .i64 0, .int .i64 0, .int .i64 0, .int .i64 0, .int .i64 0, .int .i64 0, .bool false, .int .i64 0, .int .i64 0, .int .u64 0, .int .i64 0, .int .i64 0]) <| gzs rfl (hst9) <| gz2 (.int .i64 0) (.int .i64 3) <| wn ?_
  simp only [pu]
  clear hst9 hbt9
  go_wp2_with fail
  exact bodyPost_ret (results_ctt (p := 2) rfl (by kernel_rfl) hld9 (by kernel_rfl) (by kernel_rfl)) rfl ⟨rfl, HE.out⟩
 ·skip
  go_upto_region 1 with fail
  refine wl <| gz1 (.string s) <| gzv (.int .i64 n) (by rw [← hn]; kernel_rfl) <| gzb (gtr_n rfl (n) (4096) dF) <| wn ?_
  simp only [pu]
  have cr := CR.out V0
  cases hrn : runs L 0 with
  | none =>
   rw [hrn, runsV_none] at cr
   obtain rfl := HENC.out hlim hrn
   go_upto_region 3 with fail
   refine wl <| gz1 (.string s) <| gzc (.tuple #[.int .i64 0, .bool false]) (fun w' => V0 = w') (cr) (fun V9 hV9 => ?_)
   subst hV9
   simp only [pu]
   refine gz5 (.tuple #[.int .i64 0, .bool false]) (.int .i64 0) (.bool false) (.int .i64 0) (.bool false) <| wn ?_
   simp only [pu]
   clear cr
   go_upto_region 4 with fail
   refine wl <| gz2 (.bool false) (.bool true) <| wn ?_
   simp only [pu]
   obtain ⟨V9, hst9, hld9, -, hbt9⟩ := A0.out V0 g2 _ rfl hX2
   have HE := Lib.hid (HB0.out.trans (hbt9.1.mono (by have := HW2.out; omega)))
   go_upto_region 5 with fail
   refine wl <| gz1 (.agg #[.int .i64 0, .int .i64 0, .int .i64 0, .int .i64 0, .int .i64 0, .int .i64 0, .bool false, .int .i64 0, .int .i64 0, .int .u64 0, .int .i64 0, .int .i64 0]) <| gzs rfl (hst9) <| gz2 (.int .i64 0) (.int .i64 4) <| wn ?_
   simp only [pu]
   clear hst9 hbt9
   go_wp2_with fail
   exact bodyPost_ret (results_ctt (p := 2) rfl (by kernel_rfl) hld9 (by kernel_rfl) (by kernel_rfl)) rfl ⟨rfl, HE.out⟩
  | some nr =>
   rw [hrn, runsV_some] at cr
   go_upto_region 3 with fail
   refine wl <| gz1 (.string s) <| gzc (.tuple #[.int .i64 nr, .bool true]) (fun w' => V0 = w') (cr) (fun V9 hV9 => ?_)
   subst hV9
   simp only [pu]
   refine gz5 (.tuple #[.int .i64 nr, .bool true]) (.int .i64 nr) (.bool true) (.int .i64 nr) (.bool true) <| wn ?_
   simp only [pu]
   clear cr
   go_upto_region 4 with fail
   refine wl <| gz2 (.bool true) (.bool false) <| wn ?_
   simp only [pu]
   have HRN : Hid (runs L 0 ≠ none) := Lib.hid (by rw [hrn]; exact Option.some_ne_none _)
   have cd := r_default V0
   have HLIM2 : Hid (¬ 4096 < n) := Lib.hid hlim
   clear hrn HENC HLIM CR
   obtain ⟨D0, hD0⟩ : ∃ D, cfA dfltL = D := ⟨_, rfl⟩
   rw [hD0] at cd
   have hone : D0.all (·.oneCell') = true := by rw [← hD0]; kernel_rfl
   have hsz : D0.size = 12 := by rw [← hD0]; rfl
   have HD0 := Lib.hid hD0
   clear hD0
   go_upto_region 6 with fail
   refine wl <| gzc (.agg D0) (fun w' => Below V0.heap.size V0 w') (cd) (fun V1 hb1 => ?_)
   obtain ⟨V2, hst2, hb2, hX7⟩ := new_bx (c := #[.int .i64 0, .int .i64 0, .int .i64 0, .int .i64 0, .int .i64 0, .int .i64 0, .bool false, .int .i64 0, .int .i64 0, .int .u64 0, .int .i64 0, .int .i64 0]) (c' := D0) (ty := 24) V1 (by rw [hsz]; rfl) hone (by rw [hsz]; kernel_rfl)
   simp only [pu]
   refine run_to rfl (some 7) rfl (.pointer (some ⟨V1.heap.size, 0, none⟩)) (V1.alloc (.cells #[.int .i64 0, .int .i64 0, .int .i64 0, .int .i64 0, .int .i64 0, .int .i64 0, .bool false, .int .i64 0, .int .i64 0, .int .u64 0, .int .i64 0, .int .i64 0] 24)) (by kernel_rfl) ?_
   simp only [pu]
   refine gzs rfl (hst2) <| wn ?_
   have hX2b := (hX2.below hX2.lt hb1).below (hX2.below hX2.lt hb1).lt hb2
   have hlt27 : g2 < V1.heap.size := (hX2.below hX2.lt hb1).lt
   have HB2 := Lib.hid ((HB0.out.trans (hb1.mono HB0.out.size)).trans (hb2.mono (HB0.out.trans (hb1.mono HB0.out.size)).size))
   obtain ⟨g7, hg7⟩ : ∃ g7, V1.heap.size = g7 := ⟨_, rfl⟩
   rw [hg7] at hX7 hlt27
   simp only [hg7]
   have HLT := Lib.hid hlt27
   clear hst2 hb1 hb2 hX2 hg7 hone hsz cd hlt27
   go_upto_region 7 with fail
   refine wl <| gz1 (.slice none 0 0) <| wn ?_
   simp only [pu]
   have cl := CLN.out (by omega) V2
   go_upto_region 8 with fail
   refine wl <| gz1 (.string s) <| gze (fun v w' => ∃ S, RowS w' V2.heap.size v S ∧ S.map nums = splitL [] L ∧ Below V2.heap.size V2 w') (cl) (fun v29 V3 hq => ?_)
   obtain ⟨Ls, hrow, hmp, hb3⟩ := hq
   obtain ⟨a9, c9, hv9, hcs9, hcl9⟩ := hrow.cs
   obtain rfl := hv9
   simp only [pu]
   refine gz2 (.int .i64 Ls.length) (.int .i64 0) <| wn ?_
   simp only [pu]
   have HG : Hid (PcG w V3.heap.size g2 g7 a9 Ls) := Lib.hid ⟨by have := HW2.out; omega, HLT.out, Nat.lt_of_lt_of_le hX7.lt hb3.size, fun hn x hx => by
    have := hrow.lt x.block (by rw [hx]; rfl)
    have := hX7.lt
    omega⟩
   have HP0 : Hid (PcW w V3.heap.size g2 g7 a9 Ls D0 V3) := Lib.hid ⟨Nat.le_refl _, hX2b.below hX2b.lt hb3, hX7.below hX7.lt hb3, hcs9, HB2.out.trans (hb3.mono HB2.out.size)⟩
   have hPI : PI L 0 dfltL [] Ls := PI.start (by rw [HLL.out]; exact HLIM2.out) HRN.out hmp
   have HPI := Lib.hid hPI
   have hnl : Ls.length ≤ 4097 := by
    have h1 := split_num L []
    rw [← hmp, List.length_map] at h1
    have h2 := HLL.out
    have h3 := HLIM2.out
    omega
   have HVAL : Hid (∀ i, i < Ls.length → runs (nums (Ls.getD i (⟨#[]⟩ : ByteArray))) 0 ≠ none ∧ (Ls.getD i (⟨#[]⟩ : ByteArray)).size ≤ 4096) := Lib.hid fun i hi => by
    have h1 := getD_memS hi
    rw [hmp] at h1
    refine ⟨split_valid L.length L (Nat.le_refl _) HRN.out _ h1, ?_⟩
    have h2 := split_len L [] _ h1
    rw [nums_len] at h2
    have h3 := HLL.out
    have h4 := HLIM2.out
    simp only [List.length_nil] at h2
    omega
   have HFI : Hid (∀ c S, PI L Ls.length c S Ls → (c.getD 11 0 ≤ c.getD 10 0 → .tuple #[.agg #[.int .i64 0, .int .i64 0, .int .i64 0, .int .i64 0, .int .i64 0, .int .i64 0, .bool false, .int .i64 0, .int .i64 0, .int .u64 0, .int .i64 0, .int .i64 0], .int .i64 0, .int .i64 1] = ZV) ∧ (¬ c.getD 11 0 ≤ c.getD 10 0 → .tuple #[.agg (cfA c), .int .i64 0, .int .i64 0] = ZV)) := Lib.hid fun c S h => ⟨fun q => by
    rw [← HZV.out]
    exact parV_of (by rw [h.fin rfl, if_pos q]), fun q => by
    rw [← HZV.out]
    exact parV_of (by rw [h.fin rfl, if_neg q])⟩
   have HER : Hid (∀ (i : Nat) (e : Int), parX L = (zeroL, i + 1, e) → .tuple #[.agg #[.int .i64 0, .int .i64 0, .int .i64 0, .int .i64 0, .int .i64 0, .int .i64 0, .bool false, .int .i64 0, .int .i64 0, .int .u64 0, .int .i64 0, .int .i64 0], .int .i64 (i + 1 : Nat), .int .i64 e] = ZV) := Lib.hid fun i e h => by
    rw [← HZV.out]
    exact parV_of h
   obtain ⟨B5, hB5⟩ : ∃ B, V3.heap.size = B := ⟨_, rfl⟩
   rw [hB5] at HG HP0
   have HB5 := Lib.hid hB5
   clear hX7 hX2b hb3 hcs9 hcl9 hrow hPI hmp hB5 cl HB2 HB0 HLT HW2 HZV CLN
   have HW2 : Hid (w.heap.size ≤ g2) := Lib.hid HG.out.w2
   obtain ⟨nl, hnl2⟩ : ∃ nl, Ls.length = nl := ⟨_, rfl⟩
   simp only [hnl2]
   rw [hnl2] at HVAL HFI hnl
   have HNL := Lib.hid hnl2
   clear hnl2
   go_wp2_with fail
   go_loopg [8, 31] nl (fun gg s8 s31 wx => ∃ (i : Nat) (v : Value) (S : List ByteArray) (c : List Int), s31 = .int .i64 i ∧ s8 = v ∧ i ≤ nl ∧ gg + i = nl ∧ Hid (PI L i c S Ls) ∧ Hid (PcW w B5 g2 g7 a9 Ls (cfA c) wx) ∧ Hid (RowS wx B5 v S))
   case atStart => exact ⟨0, _, [], dfltL, rfl, rfl, by omega, by omega, HPI, (by rw [HD0.out]; exact HP0), Lib.hid (own_no _ _ _ _)⟩
   case round =>
    obtain ⟨i, v, S, c, hs31, hs8, hin, hg, HI, HP, HS⟩ := hrel
    obtain rfl := hs31
    obtain rfl := hs8.symm
    have HGK : Hid (gk + i = nl) := Lib.hid hg
    clear hg HPI HP0 hs8
    by_cases hlt : i < nl
    ·skip
     obtain ⟨hvl, hszl⟩ := HVAL.out i hlt
     obtain ⟨b, off, hab, -, hcl⟩ := strs_get HP.out.cs (k := i) (by rw [HNL.out]; exact hlt)
     obtain rfl := hab
     have HSK : Hid (wrd (nums (Ls.getD i (⟨#[]⟩ : ByteArray))) 0 [] = [] → PI L (i + 1) c S Ls) := Lib.hid fun h => HI.out.skip (by rw [HNL.out]; exact hlt) h
     have HSY : Hid ((wrd (nums (Ls.getD i (⟨#[]⟩ : ByteArray))) 0 []).length ≠ 0 → (wrd (nums (Ls.getD i (⟨#[]⟩ : ByteArray))) 0 []).length ≠ 2 → .tuple #[.agg #[.int .i64 0, .int .i64 0, .int .i64 0, .int .i64 0, .int .i64 0, .int .i64 0, .bool false, .int .i64 0, .int .i64 0, .int .u64 0, .int .i64 0, .int .i64 0], .int .i64 (i + 1 : Nat), .int .i64 2] = ZV) := Lib.hid fun h h2 => HER.out i _ (HI.out.syn (by rw [HNL.out]; exact hlt) rfl h h2)
     have HNA : Hid (∀ k v : ByteArray, wrd (nums (Ls.getD i (⟨#[]⟩ : ByteArray))) 0 [] = [nums k, nums v] → idxI (nums k) keysL < 0 → .tuple #[.agg #[.int .i64 0, .int .i64 0, .int .i64 0, .int .i64 0, .int .i64 0, .int .i64 0, .bool false, .int .i64 0, .int .i64 0, .int .u64 0, .int .i64 0, .int .i64 0], .int .i64 (i + 1 : Nat), .int .i64 10] = ZV) := Lib.hid fun k v h h2 => HER.out i _ (HI.out.name (by rw [HNL.out]; exact hlt) h (idxI_neg h2))
     have HDU : Hid (∀ (k v : ByteArray) (j : Nat), wrd (nums (Ls.getD i (⟨#[]⟩ : ByteArray))) 0 [] = [nums k, nums v] → idxL (nums k) keysL 0 = some j → ¬ idxI (nums k) (S.map nums) < 0 → .tuple #[.agg #[.int .i64 0, .int .i64 0, .int .i64 0, .int .i64 0, .int .i64 0, .int .i64 0, .bool false, .int .i64 0, .int .i64 0, .int .u64 0, .int .i64 0, .int .i64 0], .int .i64 (i + 1 : Nat), .int .i64 8] = ZV) := Lib.hid fun k v j h h2 h3 => HER.out i _ (HI.out.dup (by rw [HNL.out]; exact hlt) h h2 h3)
     have HBD : Hid (∀ (k v : ByteArray) (j : Nat), wrd (nums (Ls.getD i (⟨#[]⟩ : ByteArray))) 0 [] = [nums k, nums v] → idxL (nums k) keysL 0 = some j → idxI (nums k) (S.map nums) < 0 → ¬ (setX c j (nums v)).2 = 0 → .tuple #[.agg #[.int .i64 0, .int .i64 0, .int .i64 0, .int .i64 0, .int .i64 0, .int .i64 0, .bool false, .int .i64 0, .int .i64 0, .int .u64 0, .int .i64 0, .int .i64 0], .int .i64 (i + 1 : Nat), .int .i64 (setX c j (nums v)).2] = ZV) := Lib.hid fun k v j h h2 h3 h4 => HER.out i _ (HI.out.bad (by rw [HNL.out]; exact hlt) h h2 h3 h4)
     have HSTP : Hid (∀ (k v : ByteArray) (j : Nat), wrd (nums (Ls.getD i (⟨#[]⟩ : ByteArray))) 0 [] = [nums k, nums v] → idxL (nums k) keysL 0 = some j → j < 12 → idxI (nums k) (S.map nums) < 0 → (setX c j (nums v)).2 = 0 → PI L (i + 1) (setX c j (nums v)).1 (S ++ [k]) Ls) := Lib.hid fun k v j h h2 h3 h4 h5 => HI.out.step (by rw [HNL.out]; exact hlt) h h2 h3 h4 h5
     have cw := r_words2 (Ls.getD i (⟨#[]⟩ : ByteArray)) (by omega) hvl
     have HWL : Hid (∀ x, x ∈ wrd (nums (Ls.getD i (⟨#[]⟩ : ByteArray))) 0 [] → x.length ≤ 4096) := Lib.hid fun x hx => by
      have h1 := wrd_len (nums (Ls.getD i (⟨#[]⟩ : ByteArray))) _ 0 [] x (Nat.le_refl _) hx
      rw [nums_len] at h1
      simp only [List.length_nil] at h1
      omega
     have hCF := HI.out.1
     have hSL := HI.out.2.1
     have HCF := Lib.hid hCF
     have HSL := Lib.hid hSL
     clear hCF hSL hvl hszl
     generalize Ls.getD i (⟨#[]⟩ : ByteArray) = ln at *
     generalize wrd (nums ln) 0 [] = WL at *
     go_upto_region 9 with fail
     refine wl <| gzb (lss_n rfl (i) (nl) dT) <| wn ?_
     simp only [pu]
     go_upto_region 10 with fail
     refine wl <| gz1 (.int .i64 i) <| gzv (.pointer (some ⟨b, off + i, none⟩)) (idx_str b off nl c9 i hlt _ _ _ rfl (by kernel_rfl) (by kernel_rfl)) <| gzl rfl ⟨b, off + i, none⟩ (.string ln) (load_cell hcl (by kernel_rfl)) <| gz2 (.int .i64 i) (.string ln) <| wn ?_
     simp only [pu]
     clear hcl
     go_upto_region 11 with fail
     refine wl <| gz1 (.string ln) <| gze (fun v w' => ∃ S, RowS w' wr.heap.size v S ∧ S.map nums = WL ∧ Below wr.heap.size wr w') (cw wr) (fun v37 V4 hq => ?_)
     obtain ⟨Wd, hroww, hmw, hb4⟩ := hq
     obtain ⟨aw, cw9, hvw, hcsw, -⟩ := hroww.cs
     have HBW0 : Hid (∀ x, aw = some x → B5 ≤ x.block) := Lib.hid fun x hx => Nat.le_trans HP.out.b5 (hroww.lt x.block (by rw [hvw, hx]; rfl)).1
     obtain rfl := hvw
     obtain rfl := hmw
     obtain ⟨nw, hnw⟩ : ∃ nw, Wd.length = nw := ⟨_, rfl⟩
     simp only [hnw]
     clear hroww
     simp only [pu]
     refine gz1 (.slice aw nw cw9) <| wn ?_
     simp only [pu]
     have HP4 := Lib.hid (HP.out.below HG.out hb4)
     have HS4 := Lib.hid (HS.out.below hb4)
     have HNW : Hid ((Wd.map nums).length = nw) := Lib.hid (by rw [List.length_map]; exact hnw)
     clear HP HS hb4 cw
     by_cases h0 : nw = 0
     ·skip
      have HI2 : Hid (PI L (i + 1) c S Ls) := Lib.hid (HSK.out (List.eq_nil_of_length_eq_zero (HNW.out.trans h0)))
      go_upto_region 12 with fail
      refine wl <| gz2 (.slice aw nw cw9) (.int .i64 nw) <| gzb (eql_nn rfl nw 0 (decide_eq_true h0)) <| wn ?_
      simp only [pu]
      clear HSK HSY HNA HDU HBD HSTP HI hcsw
      go_upto_region 25 with fail
      refine wl <| gzv (.int .i64 (i + 1 : Nat)) (add_one rfl i (by omega) (by kernel_rfl) _) <| gz1 (.int .i64 (i + 1 : Nat)) <| wn ?_
      simp only [pu]
      go_wp2_with fail
      go_roundg (nl - (i + 1))
      case measure => have := HGK.out; omega
      case rel => exact ⟨i + 1, v, S, c, rfl, rfl, by omega, by omega, HI2, HP4, HS4⟩
     ·skip
      go_upto_region 12 with fail
      refine wl <| gz2 (.slice aw nw cw9) (.int .i64 nw) <| gzb (eql_nn rfl nw 0 (decide_eq_false h0)) <| wn ?_
      simp only [pu]
      by_cases h2 : nw = 2
      ·skip
       obtain rfl := h2.symm
       clear h0
       have hWd := two_of hnw
       obtain ⟨bw, ow, haw, -, hc0⟩ := strs_get hcsw (k := 0) (by rw [hnw]; omega)
       obtain ⟨bw2, ow2, haw2, -, hc1⟩ := strs_get hcsw (k := 1) (by rw [hnw]; omega)
       rw [haw] at haw2
       injection haw2 with haw2
       injection haw2 with e1 e2
       obtain rfl := e1
       obtain rfl := e2
       obtain rfl := haw
       have HBW : Hid (B5 ≤ bw) := Lib.hid (HBW0.out _ rfl)
       clear HBW0
       obtain ⟨kb, hkb⟩ : ∃ kb, Wd.getD 0 (⟨#[]⟩ : ByteArray) = kb := ⟨_, rfl⟩
       obtain ⟨vb, hvb⟩ : ∃ vb, Wd.getD 1 (⟨#[]⟩ : ByteArray) = vb := ⟨_, rfl⟩
       rw [hkb, hvb] at hWd
       rw [hkb] at hc0
       rw [hvb] at hc1
       have hWL : Wd.map nums = [nums kb, nums vb] := by rw [hWd]; rfl
       have HNA2 := Lib.hid (HNA.out kb vb hWL)
       have HDU2 := Lib.hid fun j => HDU.out kb vb j hWL
       have HBD2 := Lib.hid fun j => HBD.out kb vb j hWL
       have HST2 := Lib.hid fun j => HSTP.out kb vb j hWL
       have hvz : vb.size ≤ 1000000 := by
        have h1 := HWL.out (nums vb) (by rw [hWL]; simp)
        rw [nums_len] at h1
        omega
       clear hWL hWd hkb hvb HSK HSY HNA HDU HBD HSTP HWL HNW hnw hcsw
       have HC0 := Lib.hid hc0
       have HC1 := Lib.hid hc1
       have HIX : Hid (∀ V gk, Bx V gk (strs keysB).toArray 9 → Calls Tryd.prog 55 #[.slice (some ⟨gk, 0, none⟩) 12 12, .string kb] V fun e w' => e = .returned (.int .i64 (idxI (nums kb) keysL)) ∧ V = w') := Lib.hid fun V gk h => by
        rw [← keys_nums]
        exact r_index (Cs.block h) (by show 12 ≤ _; omega) kb
       have HKN := Lib.hid (fun h => idxI_nat (t := nums kb) (L := keysL) h)
       obtain ⟨kv, hkv⟩ : ∃ kv, idxI (nums kb) keysL = kv := ⟨_, rfl⟩
       rw [hkv] at HNA2 HIX HKN
       clear hkv hc0 hc1
       have h0 := KI.start (Below.refl _ V4) u47
       go_upto_region 13 with fail
       refine wl <| gz2 (.slice (some ⟨bw, ow, none⟩) 2 cw9) (.int .i64 2) <| gzb (neq_n rfl 2 2 dF) <| wn ?_
       simp only [pu]
       go_upto_region 15 with fail
       refine wp_region_inv (fun listed act9 V => ∃ b0 b1 b2 b3 b4 b5 : Bool, ∃ x47 : Value, listed = #[b0, b1, b2, b3, b4, b5] ∧ act9 = { tmps := #[.string s, undef, .pointer (some ⟨g2, 0, none⟩), u3, u4, .int .i64 nr, .bool true, .pointer (some ⟨g7, 0, none⟩), v, .int .i64 i, .string ln, .slice (some ⟨bw, ow, none⟩) 2 cw9, (cond b5 (.int .i64 kv) (u12)), u13, u14, .string s, .int .i64 n, .bool false, undef, .tuple #[.int .i64 nr, .bool true], .string s, .tuple #[.int .i64 nr, .bool true], .int .i64 nr, .bool true, .bool true, .bool false, undef, .agg D0, .string s, .slice (some ⟨b, off, none⟩) nl c9, .int .i64 nl, .int .i64 i, .bool true, .int .i64 i, .pointer (some ⟨b, off + i, none⟩), .string ln, .string ln, .slice (some ⟨bw, ow, none⟩) 2 cw9, .slice (some ⟨bw, ow, none⟩) 2 cw9, .int .i64 2, .bool false, .slice (some ⟨bw, ow, none⟩) 2 cw9, .int .i64 2, .bool false, u44, u45, u46, x47, (cond b1 (.slice (some ⟨bw, ow, none⟩) 2 cw9) (u48)), (cond b2 (.pointer (some ⟨bw, ow + 0, none⟩)) (u49)), (cond b3 (.string kb) (u50)), (cond b4 (.int .i64 kv) (u51)), u52, u53, u54, u55, u56, u57, u58, u59, u60, u61, u62, u63, u64, u65, u66, u67, u68, u69, u70, u71, u72, u73, u74, u75, u76, u77, u78, u79, u80, u81, u82, u83, u84, u85, u86, u87, u88, undef, undef, undef, undef, undef, undef, undef], defers := [] } ∧ KI V4 b0 x47 V) (by kernel_rfl) (by kernel_rfl) ?_ ?_ ?_
       ·exact ⟨false, false, false, false, false, false, u47, rfl, rfl, h0⟩
       ·intro i9 listed act9 V hi9 hr hJ
        obtain ⟨b0, b1, b2, b3, b4, b5, x47, rfl, rfl, hF⟩ := hJ
        have hi2 : i9 < 6 := hi9
        have hi3 : i9 = 0 ∨ i9 = 1 ∨ i9 = 2 ∨ i9 = 3 ∨ i9 = 4 ∨ i9 = 5 := by omega
        rcases hi3 with rfl | rfl | rfl | rfl | rfl | rfl
        ·obtain rfl : b0 = false := ready_self hr
         refine st_call rfl (by kernel_rfl) (some 47) rfl 29 #[] (by kernel_rfl) ((r_keys2 V).mono fun e9 V9 hq9 => ?_)
         obtain ⟨v9, rfl, gk9, rfl, hx9, hb9⟩ := hq9
         refine ⟨_, rfl, ?_⟩
         exact ⟨true, b1, b2, b3, b4, b5, _, rfl, rfl, hF.s0 hx9 hb9⟩
        ·obtain rfl : b1 = false := ready_self hr
         refine st_val rfl (by kernel_rfl) (some 48) rfl (.slice (some ⟨bw, ow, none⟩) 2 cw9) V (by kernel_rfl) ?_
         exact ⟨b0, true, b2, b3, b4, b5, x47, rfl, rfl, hF⟩
        ·obtain rfl : b2 = false := ready_self hr
         obtain rfl : b1 = true := ready_dep hr 1 (by kernel_rfl)
         refine st_val rfl (by kernel_rfl) (some 49) rfl (.pointer (some ⟨bw, ow + 0, none⟩)) V (idx_str bw ow 2 cw9 0 (by omega) _ _ _ rfl (by kernel_rfl) (by kernel_rfl)) ?_
         exact ⟨b0, true, true, b3, b4, b5, x47, rfl, rfl, hF⟩
        ·obtain rfl : b3 = false := ready_self hr
         obtain rfl : b2 = true := ready_dep hr 2 (by kernel_rfl)
         refine st_load rfl (by kernel_rfl) (some 50) rfl 9 (.tmp 49) rfl ⟨bw, ow + 0, none⟩ (.string kb) (by kernel_rfl) (load_cell ((hF.1.cell (p := ⟨bw, ow + 0, none⟩) (World.block_lt_of_cell? V4 _ HC0.out)).trans HC0.out) (by kernel_rfl)) ?_
         exact ⟨b0, b1, true, true, b4, b5, _, rfl, rfl, hF⟩
        ·obtain rfl : b4 = false := ready_self hr
         obtain rfl : b0 = true := ready_dep hr 0 (by kernel_rfl)
         obtain rfl : b3 = true := ready_dep hr 3 (by kernel_rfl)
         obtain ⟨gk9, rfl, hx9⟩ := hF.2 rfl
         refine st_call rfl (by kernel_rfl) (some 51) rfl 55 #[.slice (some ⟨gk9, 0, none⟩) 12 12, .string kb] (by kernel_rfl) ((HIX.out V gk9 hx9).mono fun e9 V9 hq9 => ?_)
         obtain ⟨rfl, rfl⟩ := hq9
         refine ⟨_, rfl, ?_⟩
         exact ⟨true, b1, b2, true, true, b5, _, rfl, rfl, hF⟩
        ·obtain rfl : b5 = false := ready_self hr
         obtain rfl : b4 = true := ready_dep hr 4 (by kernel_rfl)
         refine st_val rfl (by kernel_rfl) (some 12) rfl (.int .i64 kv) V (by kernel_rfl) ?_
         exact ⟨b0, b1, b2, b3, true, true, x47, rfl, rfl, hF⟩
       ·intro act9 V hJ
        obtain ⟨b0, b1, b2, b3, b4, b5, x47, he, rfl, hF⟩ := hJ
        have he : (#[true, true, true, true, true, true] : Array Bool) = #[b0, b1, b2, b3, b4, b5] := he
        simp only [Array.mk.injEq, List.cons.injEq, and_true] at he
        obtain ⟨rfl, rfl, rfl, rfl, rfl, rfl⟩ := he
        simp only [cond_true]
        have hb5 := hF.1
        have HP5 := Lib.hid (HP4.out.below HG.out hb5)
        have HS5 := Lib.hid (HS4.out.below hb5)
        have HC05 : Hid (V.cell? ⟨bw, ow + 0, none⟩ = some (.string kb)) := Lib.hid ((hb5.cell (p := ⟨bw, ow + 0, none⟩) (World.block_lt_of_cell? V4 _ HC0.out)).trans HC0.out)
        have HC15 : Hid (V.cell? ⟨bw, ow + 1, none⟩ = some (.string vb)) := Lib.hid ((hb5.cell (p := ⟨bw, ow + 1, none⟩) (World.block_lt_of_cell? V4 _ HC1.out)).trans HC1.out)
        clear hF h0 hb5 HC0 HC1 HIX HP4 HS4
        obtain ⟨V6, hV6⟩ : ∃ V6, V6 = V := ⟨V, rfl⟩
        subst hV6
        by_cases hk0 : kv < 0
        ·skip
         obtain rfl := HNA2.out hk0
         go_upto_region 16 with fail
         refine wl <| gz1 (.int .i64 kv) <| gzb (lss_n rfl kv 0 (decide_eq_true hk0)) <| wn ?_
         simp only [pu]
         clear HNA2 HDU2 HBD2 HST2 HI HFI HER HKN HC05 HC15 hk0
         obtain ⟨V9, hst9, hld9, -, hbt9⟩ := A0.out V6 g2 _ rfl HP5.out.h2
         have HE := Lib.hid (HP5.out.bel.trans (hbt9.1.mono (by have := HW2.out; omega)))
         go_upto_region 17 with fail
         refine wl <| gz2 (.agg #[.int .i64 0, .int .i64 0, .int .i64 0, .int .i64 0, .int .i64 0, .int .i64 0, .bool false, .int .i64 0, .int .i64 0, .int .u64 0, .int .i64 0, .int .i64 0]) (.int .i64 i) <|
          gzv (.int .i64 (i + 1 : Nat)) (add_one rfl i (by omega) (by kernel_rfl) _) <| gzs rfl (hst9) <| gz2 (.int .i64 (i + 1 : Nat)) (.int .i64 10) <| wn ?_
         simp only [pu]
         clear hst9 hbt9
         go_wp2_with fail
         exact bodyPost_ret (results_ctt (p := 2) rfl (by kernel_rfl) hld9 (by kernel_rfl) (by kernel_rfl)) rfl ⟨rfl, HE.out⟩
        ·skip
         obtain ⟨j, hj1, hj2, hj3⟩ := HKN.out hk0
         obtain rfl := hj2
         have hj12 : j < 12 := hj3
         have HDU3 := Lib.hid (HDU2.out j hj1)
         have HBD3 := Lib.hid (HBD2.out j hj1)
         have HST3 := Lib.hid (HST2.out j hj1 hj12)
         clear HNA2 HDU2 HBD2 HST2 HKN hj1 hj3
         obtain ⟨a8, c8, hv8, hcs8, -⟩ := HS5.out.cs
         obtain rfl := hv8
         have CI := r_index (c := c8) hcs8 (by have := HSL.out; omega) kb
         obtain ⟨sv, hsv⟩ : ∃ sv, idxI (nums kb) (S.map nums) = sv := ⟨_, rfl⟩
         rw [hsv] at CI HDU3 HBD3 HST3
         clear hsv hcs8
         go_upto_region 16 with fail
         refine wl <| gz1 (.int .i64 (j : Int)) <| gzb (lss_n rfl (j : Int) 0 dF) <| wn ?_
         simp only [pu]
         by_cases hs0 : sv < 0
         ·skip
          go_upto_region 18 with fail
          refine wl <| gz2 (.slice a8 S.length c8) (.slice (some ⟨bw, ow, none⟩) 2 cw9) <| gzv (.pointer (some ⟨bw, ow + 0, none⟩)) (idx_str bw ow 2 cw9 0 (by omega) _ _ _ rfl (by kernel_rfl) (by kernel_rfl)) <|
           gzl rfl ⟨bw, ow + 0, none⟩ (.string kb) (load_cell HC05.out (by kernel_rfl)) <| gzc (.int .i64 sv) (fun w' => V6 = w') (CI) (fun V9 hV9 => ?_)
          subst hV9
          simp only [pu]
          refine gzb (geq_n rfl sv 0 dF) <| wn ?_
          simp only [pu]
          clear CI
          have HBD4 := Lib.hid (HBD3.out hs0)
          have HST4 := Lib.hid (HST3.out hs0)
          have cs := Lib.hid fun V => r_set HCF.out j hj12 vb hvz V
          clear HDU3 HBD3 HST3 hs0
          unfold setV at cs
          obtain ⟨c2, hc2⟩ : ∃ c2, (setX c j (nums vb)).1 = c2 := ⟨_, rfl⟩
          obtain ⟨er, her⟩ : ∃ er, (setX c j (nums vb)).2 = er := ⟨_, rfl⟩
          rw [her] at HBD4
          rw [hc2, her] at HST4
          have cs2 : Hid (∀ V, Calls Tryd.prog 56 #[.agg (cfA c), .int .i64 j, .string vb] V fun e w' => e = .returned (.tuple #[.agg (cfA c2), .int .i64 er]) ∧ Below V.heap.size V w') := Lib.hid fun V => by
           have h := cs.out V
           rw [hc2, her] at h
           exact h
          have AD := Lib.hid (sta c2)
          have LD := Lib.hid (lda c)
          have LD2 := Lib.hid (lda c2)
          clear cs hc2 her
          obtain ⟨CD, hCD⟩ : ∃ D, cfA c2 = D := ⟨_, rfl⟩
          obtain ⟨CC, hCC⟩ : ∃ D, cfA c = D := ⟨_, rfl⟩
          have HCZ : Hid (CC.size = 12) := Lib.hid (by rw [← hCC]; rfl)
          rw [hCD] at AD LD2
          simp only [hCD, hCC] at cs2
          rw [hCC] at LD HP5
          have HCD := Lib.hid hCD
          clear hCD hCC
          have h0 := KS.start (Below.refl _ V6) CD u13
          go_upto_region 20 with fail
          refine wp_region_inv (fun listed act9 V => ∃ b0 b1 b2 b3 b4 b5 b6 b7 b8 b9 b10 b11 : Bool, ∃ x13 : Value, listed = #[b0, b1, b2, b3, b4, b5, b6, b7, b8, b9, b10, b11] ∧ act9 = { tmps := #[.string s, undef, .pointer (some ⟨g2, 0, none⟩), u3, u4, .int .i64 nr, .bool true, .pointer (some ⟨g7, 0, none⟩), .slice a8 S.length c8, .int .i64 i, .string ln, .slice (some ⟨bw, ow, none⟩) 2 cw9, .int .i64 (j : Int), x13, (cond b11 (.int .i64 er) (u14)), .string s, .int .i64 n, .bool false, undef, .tuple #[.int .i64 nr, .bool true], .string s, .tuple #[.int .i64 nr, .bool true], .int .i64 nr, .bool true, .bool true, .bool false, undef, .agg D0, .string s, .slice (some ⟨b, off, none⟩) nl c9, .int .i64 nl, .int .i64 i, .bool true, .int .i64 i, .pointer (some ⟨b, off + i, none⟩), .string ln, .string ln, .slice (some ⟨bw, ow, none⟩) 2 cw9, .slice (some ⟨bw, ow, none⟩) 2 cw9, .int .i64 2, .bool false, .slice (some ⟨bw, ow, none⟩) 2 cw9, .int .i64 2, .bool false, u44, u45, u46, x47, .slice (some ⟨bw, ow, none⟩) 2 cw9, .pointer (some ⟨bw, ow + 0, none⟩), .string kb, .int .i64 (j : Int), .int .i64 (j : Int), .bool false, u54, u55, u56, .slice a8 S.length c8, .slice (some ⟨bw, ow, none⟩) 2 cw9, .pointer (some ⟨bw, ow + 0, none⟩), .string kb, .int .i64 sv, .bool false, u63, u64, u65, (cond b6 (.tuple #[.agg CD, .int .i64 er]) (u66)), (cond b0 (.agg CC) (u67)), (cond b1 (.int .i64 (j : Int)) (u68)), (cond b2 (.slice (some ⟨bw, ow, none⟩) 2 cw9) (u69)), (cond b3 (.pointer (some ⟨bw, ow + 1, none⟩)) (u70)), (cond b4 (.string vb) (u71)), (cond b5 (.tuple #[.agg CD, .int .i64 er]) (u72)), (cond b7 (.agg CD) (u73)), (cond b8 (.int .i64 er) (u74)), u75, u76, u77, u78, u79, u80, u81, u82, u83, u84, u85, u86, u87, u88, undef, undef, undef, undef, undef, undef, undef], defers := [] } ∧ KS V6 CD b9 b10 x13 V) (by kernel_rfl) (by kernel_rfl) ?_ ?_ ?_
          ·exact ⟨false, false, false, false, false, false, false, false, false, false, false, false, u13, rfl, rfl, h0⟩
          ·intro i9 listed act9 V hi9 hr hJ
           obtain ⟨b0, b1, b2, b3, b4, b5, b6, b7, b8, b9, b10, b11, x13, rfl, rfl, hF⟩ := hJ
           have hi2 : i9 < 12 := hi9
           have hi3 : i9 = 0 ∨ i9 = 1 ∨ i9 = 2 ∨ i9 = 3 ∨ i9 = 4 ∨ i9 = 5 ∨ i9 = 6 ∨ i9 = 7 ∨ i9 = 8 ∨ i9 = 9 ∨ i9 = 10 ∨ i9 = 11 := by omega
           rcases hi3 with rfl | rfl | rfl | rfl | rfl | rfl | rfl | rfl | rfl | rfl | rfl | rfl
           ·obtain rfl : b0 = false := ready_self hr
            refine st_load rfl (by kernel_rfl) (some 67) rfl 24 (.tmp 7) rfl ⟨g7, 0, none⟩ (.agg CC) (by kernel_rfl) (LD.out _ _ (HP5.out.below HG.out hF.bel).h7) ?_
            exact ⟨true, b1, b2, b3, b4, b5, b6, b7, b8, b9, b10, b11, _, rfl, rfl, hF⟩
           ·obtain rfl : b1 = false := ready_self hr
            refine st_val rfl (by kernel_rfl) (some 68) rfl (.int .i64 (j : Int)) V (by kernel_rfl) ?_
            exact ⟨b0, true, b2, b3, b4, b5, b6, b7, b8, b9, b10, b11, x13, rfl, rfl, hF⟩
           ·obtain rfl : b2 = false := ready_self hr
            refine st_val rfl (by kernel_rfl) (some 69) rfl (.slice (some ⟨bw, ow, none⟩) 2 cw9) V (by kernel_rfl) ?_
            exact ⟨b0, b1, true, b3, b4, b5, b6, b7, b8, b9, b10, b11, x13, rfl, rfl, hF⟩
           ·obtain rfl : b3 = false := ready_self hr
            obtain rfl : b2 = true := ready_dep hr 2 (by kernel_rfl)
            refine st_val rfl (by kernel_rfl) (some 70) rfl (.pointer (some ⟨bw, ow + 1, none⟩)) V (idx_str bw ow 2 cw9 1 (by omega) _ _ _ rfl (by kernel_rfl) (by kernel_rfl)) ?_
            exact ⟨b0, b1, true, true, b4, b5, b6, b7, b8, b9, b10, b11, x13, rfl, rfl, hF⟩
           ·obtain rfl : b4 = false := ready_self hr
            obtain rfl : b3 = true := ready_dep hr 3 (by kernel_rfl)
            refine st_load rfl (by kernel_rfl) (some 71) rfl 9 (.tmp 70) rfl ⟨bw, ow + 1, none⟩ (.string vb) (by kernel_rfl) (load_cell ((hF.bel.cell (p := ⟨bw, ow + 1, none⟩) (World.block_lt_of_cell? V6 _ HC15.out)).trans HC15.out) (by kernel_rfl)) ?_
            exact ⟨b0, b1, b2, true, true, b5, b6, b7, b8, b9, b10, b11, _, rfl, rfl, hF⟩
           ·obtain rfl : b5 = false := ready_self hr
            obtain rfl : b0 = true := ready_dep hr 0 (by kernel_rfl)
            obtain rfl : b1 = true := ready_dep hr 1 (by kernel_rfl)
            obtain rfl : b4 = true := ready_dep hr 4 (by kernel_rfl)
            refine st_call rfl (by kernel_rfl) (some 72) rfl 56 #[.agg CC, .int .i64 j, .string vb] (by kernel_rfl) ((cs2.out V).mono fun e9 V9 hq9 => ?_)
            obtain ⟨rfl, hb9⟩ := hq9
            refine ⟨_, rfl, ?_⟩
            exact ⟨true, true, b2, b3, true, true, b6, b7, b8, b9, b10, b11, _, rfl, rfl, hF.call hb9⟩
           ·obtain rfl : b6 = false := ready_self hr
            obtain rfl : b5 = true := ready_dep hr 5 (by kernel_rfl)
            refine st_val rfl (by kernel_rfl) (some 66) rfl (.tuple #[.agg CD, .int .i64 er]) V (by kernel_rfl) ?_
            exact ⟨b0, b1, b2, b3, b4, true, true, b7, b8, b9, b10, b11, x13, rfl, rfl, hF⟩
           ·obtain rfl : b7 = false := ready_self hr
            obtain rfl : b6 = true := ready_dep hr 6 (by kernel_rfl)
            refine st_val rfl (by kernel_rfl) (some 73) rfl (.agg CD) V (by kernel_rfl) ?_
            exact ⟨b0, b1, b2, b3, b4, b5, true, true, b8, b9, b10, b11, x13, rfl, rfl, hF⟩
           ·obtain rfl : b8 = false := ready_self hr
            obtain rfl : b6 = true := ready_dep hr 6 (by kernel_rfl)
            refine st_val rfl (by kernel_rfl) (some 74) rfl (.int .i64 er) V (by kernel_rfl) ?_
            exact ⟨b0, b1, b2, b3, b4, b5, true, b7, true, b9, b10, b11, x13, rfl, rfl, hF⟩
           ·obtain rfl : b9 = false := ready_self hr
            obtain rfl : b10 = false := hF.n9
            refine st_val rfl (by kernel_rfl) (some 13) rfl (.pointer (some ⟨V.heap.size, 0, none⟩)) (V.alloc (.cells #[.int .i64 0, .int .i64 0, .int .i64 0, .int .i64 0, .int .i64 0, .int .i64 0, .bool false, .int .i64 0, .int .i64 0, .int .u64 0, .int .i64 0, .int .i64 0] 24)) (by kernel_rfl) ?_
            exact ⟨b0, b1, b2, b3, b4, b5, b6, b7, b8, true, false, b11, _, rfl, rfl, hF.s9⟩
           ·obtain rfl : b10 = false := ready_self hr
            obtain rfl : b7 = true := ready_dep hr 7 (by kernel_rfl)
            obtain rfl : b9 = true := ready_dep hr 9 (by kernel_rfl)
            obtain ⟨g9, rfl, hge9, hx9, -⟩ := hF.bx rfl
            obtain ⟨V9, hst9, -, hx99, hbt9⟩ := AD.out V g9 _ rfl (hx9 rfl)
            refine st_storeA rfl (by kernel_rfl) rfl 24 (.tmp 13) (.tmp 73) rfl (.pointer (some ⟨g9, 0, none⟩)) (.agg CD) (by kernel_rfl) (by kernel_rfl) V9 hst9 ?_
            exact ⟨b0, b1, b2, b3, b4, b5, b6, true, b8, true, true, b11, _, rfl, rfl, hF.s10 hge9 hbt9 hx99⟩
           ·obtain rfl : b11 = false := ready_self hr
            obtain rfl : b8 = true := ready_dep hr 8 (by kernel_rfl)
            refine st_val rfl (by kernel_rfl) (some 14) rfl (.int .i64 er) V (by kernel_rfl) ?_
            exact ⟨b0, b1, b2, b3, b4, b5, b6, b7, true, b9, b10, true, x13, rfl, rfl, hF⟩
          ·intro act9 V hJ
           obtain ⟨b0, b1, b2, b3, b4, b5, b6, b7, b8, b9, b10, b11, x13, he, rfl, hF⟩ := hJ
           have he : (#[true, true, true, true, true, true, true, true, true, true, true, true] : Array Bool) = #[b0, b1, b2, b3, b4, b5, b6, b7, b8, b9, b10, b11] := he
           simp only [Array.mk.injEq, List.cons.injEq, and_true] at he
           obtain ⟨rfl, rfl, rfl, rfl, rfl, rfl, rfl, rfl, rfl, rfl, rfl, rfl⟩ := he
           simp only [cond_true]
           have hb6 := hF.bel
           obtain ⟨g13, rfl, -, -, hx13⟩ := hF.bx rfl
           have hX13 := hx13 rfl
           have HP6 := Lib.hid (HP5.out.below HG.out hb6)
           have HS6 := Lib.hid (HS5.out.below hb6)
           have HC06 : Hid (V.cell? ⟨bw, ow + 0, none⟩ = some (.string kb)) := Lib.hid ((hb6.cell (p := ⟨bw, ow + 0, none⟩) (World.block_lt_of_cell? V6 _ HC05.out)).trans HC05.out)
           clear hF h0 hb6 hx13 HC05 HC15 cs2 HP5 HS5 LD
           by_cases her : er = 0
           ·skip
            obtain rfl := her
            have HI2 := Lib.hid (HST4.out rfl)
            have hl13 := LD2.out _ _ hX13
            obtain ⟨V7, hst7, -, hx7, hbt7⟩ := AD.out V g7 _ HCZ.out HP6.out.h7
            have HP7 := Lib.hid (HP6.out.st7 HG.out hbt7 hx7)
            have hne8 : ∀ x, a8 = some x → x.block ≠ g7 := fun x hx => by
             have h1 := (HS6.out.lt x.block (by rw [hx]; rfl)).1
             have h2 := HG.out.w5
             omega
            have hrow7 : RowS V7 B5 (.slice a8 S.length c8) S := own_butq HS6.out hbt7 hne8
            have hne7 : (⟨bw, ow + 0, none⟩ : Addr).block ≠ g7 := fun e => by
             have h1 := HBW.out
             have h2 := HG.out.w5
             have h3 : bw = g7 := e
             omega
            have HC07 : Hid (V7.cell? ⟨bw, ow + 0, none⟩ = some (.string kb)) := Lib.hid ((World.cell?_of_block (a := ⟨bw, ow + 0, none⟩) (hbt7.2 bw (World.block_lt_of_cell? V _ HC06.out) hne7)).trans HC06.out)
            have HROW7 := Lib.hid hrow7
            clear hrow7 hne8 hne7 hx7 hbt7 HC06 HP6 HS6 HBD4 HST4
            go_upto_region 21 with fail
            refine wl <| gz1 (.int .i64 0) <| gzb (neq_e rfl 0 0 dF) <| wn ?_
            simp only [pu]
            go_upto_region 23 with fail
            refine wl <| gzl rfl ⟨g13, 0, none⟩ (.agg CD) (hl13) <| gzs rfl (hst7) <| wn ?_
            simp only [pu]
            clear hst7 hl13 hX13
            have hbA : Below V7.heap.size V7 (V7.alloc (.cells #[.string kb] 9)) := (Below.refl _ V7).alloc (Nat.le_refl _) _
            have hXA : Bx (V7.alloc (.cells #[.string kb] 9)) V7.heap.size #[.string kb] 9 := heap_alloc_last V7 _
            obtain ⟨v6, W6, hap6, hrow6, hb6, -, -⟩ := app_str (RowS.below HROW7.out hbA) (Nat.le_trans HP7.out.b5 hbA.size) (some ⟨V7.heap.size, 0, none⟩) 1 1 [kb] (Cs.block (cs := strs [kb]) hXA) rfl (by have := HSL.out; omega) (by omega)
            have HP8 := Lib.hid (HP7.out.low HG.out ((hbA.mono HP7.out.b5).trans hb6))
            have HS8 := Lib.hid hrow6
            clear hb6 hrow6 hbA hXA
            go_upto_region 24 with fail
            refine wl <| gz2 (.slice a8 S.length c8) (.slice (some ⟨bw, ow, none⟩) 2 cw9) <| gzv (.pointer (some ⟨bw, ow + 0, none⟩)) (idx_str bw ow 2 cw9 0 (by omega) _ _ _ rfl (by kernel_rfl) (by kernel_rfl)) <|
             gzl rfl ⟨bw, ow + 0, none⟩ (.string kb) (load_cell HC07.out (by kernel_rfl)) ?_
            simp only [pu]
            refine gw_build (by kernel_rfl) (some 86) rfl 39 1 #[(0, .tmp 85)] rfl #[(0, .string kb)] (by kernel_rfl) (.slice (some ⟨V7.heap.size, 0, none⟩) 1 1) _ (one_str (kb) V7) ?_
            simp only [pu]
            refine append_step rfl (some 87) rfl 39 rfl (.tmp 82) (.tmp 86) 39 rfl (.slice a8 S.length c8) (.slice (some ⟨V7.heap.size, 0, none⟩) 1 1) (v6) W6 (by kernel_rfl) (by kernel_rfl) hap6 ?_
            simp only [pu]
            refine gz1 (v6) <| wn ?_
            simp only [pu]
            clear hap6 HROW7 HC07 HP7
            have HP9 : Hid (PcW w B5 g2 g7 (some ⟨b, off, none⟩) Ls (cfA c2) W6) := Lib.hid (by rw [HCD.out]; exact HP8.out)
            go_upto_region 25 with fail
            refine wl <| gzv (.int .i64 (i + 1 : Nat)) (add_one rfl i (by omega) (by kernel_rfl) _) <| gz1 (.int .i64 (i + 1 : Nat)) <| wn ?_
            simp only [pu]
            go_wp2_with fail
            go_roundg (nl - (i + 1))
            case measure => have := HGK.out; omega
            case rel => exact ⟨i + 1, v6, _, c2, rfl, rfl, by omega, by omega, HI2, HP9, HS8⟩
           ·skip
            obtain rfl := HBD4.out her
            go_upto_region 21 with fail
            refine wl <| gz1 (.int .i64 er) <| gzb (neq_e rfl er 0 (decide_eq_true her)) <| wn ?_
            simp only [pu]
            clear HBD4 HST4 HI HFI HER HC06 hX13 LD2 her HS6
            obtain ⟨V9, hst9, hld9, -, hbt9⟩ := A0.out V g2 _ rfl HP6.out.h2
            have HE := Lib.hid (HP6.out.bel.trans (hbt9.1.mono (by have := HW2.out; omega)))
            go_upto_region 22 with fail
            refine wl <| gz2 (.agg #[.int .i64 0, .int .i64 0, .int .i64 0, .int .i64 0, .int .i64 0, .int .i64 0, .bool false, .int .i64 0, .int .i64 0, .int .u64 0, .int .i64 0, .int .i64 0]) (.int .i64 i) <|
             gzv (.int .i64 (i + 1 : Nat)) (add_one rfl i (by omega) (by kernel_rfl) _) <| gz1 (.int .i64 er) <| gzs rfl (hst9) <| gz2 (.int .i64 (i + 1 : Nat)) (.int .i64 er) <| wn ?_
            simp only [pu]
            clear hst9 hbt9
            go_wp2_with fail
            exact bodyPost_ret (results_ctt (p := 2) rfl (by kernel_rfl) hld9 (by kernel_rfl) (by kernel_rfl)) rfl ⟨rfl, HE.out⟩
         ·skip
          obtain rfl := HDU3.out hs0
          go_upto_region 18 with fail
          refine wl <| gz2 (.slice a8 S.length c8) (.slice (some ⟨bw, ow, none⟩) 2 cw9) <| gzv (.pointer (some ⟨bw, ow + 0, none⟩)) (idx_str bw ow 2 cw9 0 (by omega) _ _ _ rfl (by kernel_rfl) (by kernel_rfl)) <|
           gzl rfl ⟨bw, ow + 0, none⟩ (.string kb) (load_cell HC05.out (by kernel_rfl)) <| gzc (.int .i64 sv) (fun w' => V6 = w') (CI) (fun V9 hV9 => ?_)
          subst hV9
          simp only [pu]
          refine gzb (geq_n rfl sv 0 dT) <| wn ?_
          simp only [pu]
          clear CI
          clear HDU3 HBD3 HST3 HI HFI HER HC05 HC15 hs0 HS5
          obtain ⟨V9, hst9, hld9, -, hbt9⟩ := A0.out V6 g2 _ rfl HP5.out.h2
          have HE := Lib.hid (HP5.out.bel.trans (hbt9.1.mono (by have := HW2.out; omega)))
          go_upto_region 19 with fail
          refine wl <| gz2 (.agg #[.int .i64 0, .int .i64 0, .int .i64 0, .int .i64 0, .int .i64 0, .int .i64 0, .bool false, .int .i64 0, .int .i64 0, .int .u64 0, .int .i64 0, .int .i64 0]) (.int .i64 i) <|
           gzv (.int .i64 (i + 1 : Nat)) (add_one rfl i (by omega) (by kernel_rfl) _) <| gzs rfl (hst9) <| gz2 (.int .i64 (i + 1 : Nat)) (.int .i64 8) <| wn ?_
          simp only [pu]
          clear hst9 hbt9
          go_wp2_with fail
          exact bodyPost_ret (results_ctt (p := 2) rfl (by kernel_rfl) hld9 (by kernel_rfl) (by kernel_rfl)) rfl ⟨rfl, HE.out⟩
      ·skip
       obtain rfl := HSY.out (by rw [HNW.out]; exact h0) (by rw [HNW.out]; exact h2)
       go_upto_region 13 with fail
       refine wl <| gz2 (.slice aw nw cw9) (.int .i64 nw) <| gzb (neq_n rfl nw 2 dT) <| wn ?_
       simp only [pu]
       clear HSK HSY HNA HDU HBD HSTP HI hcsw HFI HER
       obtain ⟨V9, hst9, hld9, -, hbt9⟩ := A0.out V4 g2 _ rfl HP4.out.h2
       have HE := Lib.hid (HP4.out.bel.trans (hbt9.1.mono (by have := HW2.out; omega)))
       go_upto_region 14 with fail
       refine wl <| gz2 (.agg #[.int .i64 0, .int .i64 0, .int .i64 0, .int .i64 0, .int .i64 0, .int .i64 0, .bool false, .int .i64 0, .int .i64 0, .int .u64 0, .int .i64 0, .int .i64 0]) (.int .i64 i) <| gzv (.int .i64 (i + 1 : Nat)) (add_one rfl i (by omega) (by kernel_rfl) _) <|
        gzs rfl (hst9) <| gz2 (.int .i64 (i + 1 : Nat)) (.int .i64 2) <| wn ?_
       simp only [pu]
       clear hst9 hbt9
       go_wp2_with fail
       exact bodyPost_ret (results_ctt (p := 2) rfl (by kernel_rfl) hld9 (by kernel_rfl) (by kernel_rfl)) rfl ⟨rfl, HE.out⟩
    ·skip
     obtain rfl : i = nl := by omega
     obtain ⟨hf1, hf2⟩ := HFI.out c S HI.out
     have hl10 : (Instr.loadAt 3 (.pointer (some ⟨g7, 10, none⟩))).run Tryd.prog wr = .ok (.int .i64 (c.getD 10 0)) wr := HP.out.h7.load (i := 10) rfl (by kernel_rfl)
     have hl11 : (Instr.loadAt 3 (.pointer (some ⟨g7, 11, none⟩))).run Tryd.prog wr = .ok (.int .i64 (c.getD 11 0)) wr := HP.out.h7.load (i := 11) rfl (by kernel_rfl)
     have AC := Lib.hid (sta c)
     have LC := Lib.hid (lda c)
     generalize cfA c = CC at *
     generalize c.getD 10 0 = x10 at *
     generalize c.getD 11 0 = x11 at *
     have HF1 := Lib.hid hf1
     have HF2 := Lib.hid hf2
     clear hf1 hf2 HI HFI HER HVAL
     go_upto_region 9 with fail
     refine wl <| gzb (lss_n rfl (i) (i) dF) <| wn ?_
     simp only [pu]
     by_cases hc : x11 ≤ x10
     ·skip
      obtain rfl := HF1.out hc
      go_upto_region 26 with fail
      refine wl <| gz1 (.pointer (some ⟨g7, 10, none⟩)) <| gzl rfl ⟨g7, 10, none⟩ (.int .i64 x10) (hl10) <| gz1 (.pointer (some ⟨g7, 11, none⟩)) <| gzl rfl ⟨g7, 11, none⟩ (.int .i64 x11) (hl11) <|
       gzb (geq_n rfl x10 x11 (decide_eq_true hc)) <| wn ?_
      simp only [pu]
      clear hl10 hl11 HF1 HF2
      obtain ⟨V9, hst9, hld9, -, hbt9⟩ := A0.out wr g2 _ rfl HP.out.h2
      have HE := Lib.hid (HP.out.bel.trans (hbt9.1.mono (by have := HW2.out; omega)))
      go_upto_region 27 with fail
      refine wl <| gz1 (.agg #[.int .i64 0, .int .i64 0, .int .i64 0, .int .i64 0, .int .i64 0, .int .i64 0, .bool false, .int .i64 0, .int .i64 0, .int .u64 0, .int .i64 0, .int .i64 0]) <| gzs rfl (hst9) <| gz2 (.int .i64 0) (.int .i64 1) <| wn ?_
      simp only [pu]
      clear hst9 hbt9
      go_wp2_with fail
      exact bodyPost_ret (results_ctt (p := 2) rfl (by kernel_rfl) hld9 (by kernel_rfl) (by kernel_rfl)) rfl ⟨rfl, HE.out⟩
     ·skip
      obtain rfl := HF2.out (by omega)
      go_upto_region 26 with fail
      refine wl <| gz1 (.pointer (some ⟨g7, 10, none⟩)) <| gzl rfl ⟨g7, 10, none⟩ (.int .i64 x10) (hl10) <| gz1 (.pointer (some ⟨g7, 11, none⟩)) <| gzl rfl ⟨g7, 11, none⟩ (.int .i64 x11) (hl11) <|
       gzb (geq_n rfl x10 x11 (decide_eq_false hc)) <| wn ?_
      simp only [pu]
      clear hl10 hl11 HF1 HF2
      have hlc := LC.out _ _ HP.out.h7
      obtain ⟨V9, hst9, hld9, -, hbt9⟩ := AC.out wr g2 _ rfl HP.out.h2
      have HE := Lib.hid (HP.out.bel.trans (hbt9.1.mono (by have := HW2.out; omega)))
      go_upto_region 28 with fail
      refine wl <| gzl rfl ⟨g7, 0, none⟩ (.agg CC) (hlc) <| gzs rfl (hst9) <| gz2 (.int .i64 0) (.int .i64 0) <| wn ?_
      simp only [pu]
      clear hst9 hbt9 hlc
      go_wp2_with fail
      exact bodyPost_ret (results_ctt (p := 2) rfl (by kernel_rfl) hld9 (by kernel_rfl) (by kernel_rfl)) rfl ⟨rfl, HE.out⟩
end Go.Proofs.YtplfineaomneiaaDoor
