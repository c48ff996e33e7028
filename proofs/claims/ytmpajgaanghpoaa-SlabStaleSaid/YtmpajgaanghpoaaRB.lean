/-
 The reference's store in memory; its NewStore, Count, Size, Handles, GetEntry: contracts.
-/
import Derived.Test.YtmpajgaanghpoaaQN
namespace Go.Proofs.Ytmpajgaanghpoaa
attribute [local irreducible] wpList wpQuiet
open Go.RowKit
set_option maxRecDepth 100000
set_option linter.unusedSimpArgs false
set_option linter.unusedVariables false

abbrev rsA (mo : Int) (ap : Option Addr) (n cp : Nat) (af : Option Addr) (nf cf : Nat) : Array Value := #[.int .i64 mo, .slice ap n cp, .slice af nf cf]
abbrev zPA : Pn × Ad := (zPn, zAd)
def fcs (F : List Nat) : List Value := icells (F.map (fun i : Nat => (i : Int)))
/-- A store of the reference. -/
structure Rm (w : World) (m : Sm) (L : List (Pn × Ad)) (ap : Option Addr) (cp : Nat) (af : Option Addr) (cf : Nat) : Prop where
 pn : L.map (·.1) = m.P
 pl : Cs w ap (L.flatMap pll)
 fl : Cs w af (fcs m.F)
 pc : L.length ≤ cp
 fc : m.F.length ≤ cf
 en : ∀ i, i < L.length → EnI w (L.getD i zPA).1.e (L.getD i zPA).2
/-- Its blocks. -/
def RmB (m : Sm) (L : List (Pn × Ad)) (ap af : Option Addr) (k : Nat) : Prop := rb ap (L.flatMap pll) k ∨ rb af (fcs m.F) k ∨ ∃ i, i < L.length ∧ EB (L.getD i zPA).1.e (L.getD i zPA).2 k
section
variable {w w' : World} {m : Sm} {L : List (Pn × Ad)} {ap af : Option Addr} {cp cf : Nat}
theorem Rm.lt (h : Rm w m L ap cp af cf) : ∀ k, RmB m L ap af k → k < w.heap.size := fun k hk => by
 rcases hk with h1 | h1 | ⟨i, hi, h1⟩
 ·exact cs_rlt h.pl k h1
 ·exact cs_rlt h.fl k h1
 ·exact (h.en i hi).lt k h1
theorem Rm.same (h : Rm w m L ap cp af cf) (hs : ∀ k, RmB m L ap af k → w'.heap[k]? = w.heap[k]?) : Rm w' m L ap cp af cf :=
 ⟨h.pn, cs_same h.pl fun k hk => hs k (.inl hk), cs_same h.fl fun k hk => hs k (.inr (.inl hk)), h.pc, h.fc, fun i hi => (h.en i hi).same fun k hk => hs k (.inr (.inr ⟨i, hi, hk⟩))⟩
theorem Rm.below (h : Rm w m L ap cp af cf) (hb : Below w.heap.size w w') : Rm w' m L ap cp af cf := h.same fun k hk => hb.block k (h.lt k hk)
theorem Rm.len (h : Rm w m L ap cp af cf) : L.length = m.P.length := by rw [← h.pn, List.length_map]
theorem Rm.at (h : Rm w m L ap cp af cf) {i : Nat} (hi : i < L.length) : (L.getD i zPA).1 = m.P.getD i zPn := by
 rw [← h.pn, getD_lt L i _ hi, getD_lt _ i _ (by rw [List.length_map]; exact hi), List.getElem_map]
theorem Rm.rg (h : Rm w m L ap cp af cf) {i : Nat} (hi : i < L.length) : ∃ b off, ap = some ⟨b, off, none⟩ ∧ b < w.heap.size ∧ w.rangeAt b (off + i * 43) (pll (L.getD i zPA)) := fl_range pll pl_len (by omega) zPA h.pl hi
theorem Rm.rngs (h : Rm w m L ap cp af cf) : (∃ b off, ap = some ⟨b, off, none⟩) ∨ L.length = 0 := by
 rcases Nat.eq_zero_or_pos L.length with h0 | h0
 ·exact .inr h0
 ·obtain ⟨b, off, h1, -⟩ := h.rg h0
  exact .inl ⟨b, off, h1⟩
end
theorem cnt_step (P : List Pn) (i : Nat) (h : i < P.length) : cntL (P.take (i + 1)) = cntL (P.take i) + pb (P.getD i zPn).full 1 := by
 rw [List.take_add_one, List.getElem?_eq_getElem h, Option.toList_some, cnt_app, getD_lt P i zPn h]
 rfl
theorem siz_step (P : List Pn) (i : Nat) (h : i < P.length) : sizL (P.take (i + 1)) = sizL (P.take i) + pb (P.getD i zPn).full (P.getD i zPn).e.raw.length := by
 rw [List.take_add_one, List.getElem?_eq_getElem h, Option.toList_some, siz_app, getD_lt P i zPn h]
 rfl
set_option maxRecDepth 100000 in
set_option maxHeartbeats 8000000 in
theorem r_cnt {w : World} {m : Sm} {L : List (Pn × Ad)} {ap af : Option Addr} {cp cf u : Nat} (hR : Rm w m L ap cp af cf) (hm : Wm m u) (hu : u ≤ 1000000) : Calls Try.prog 12 #[.agg (rsA m.mo ap L.length cp af m.F.length cf)] w (fun e w' => e = .returned (.int .i64 (cntL m.P)) ∧ Below w.heap.size w w') := by
 have hpl := hm.pl
 have hlen := hR.len
 have hb0 : Below w.heap.size w (w.alloc (.cells (rsA m.mo ap L.length cp af m.F.length cf) 28)) := (Below.refl _ w).alloc (Nat.le_refl _) _
 have hX1 : Bx (w.alloc (.cells (rsA m.mo ap L.length cp af m.F.length cf) 28)) w.heap.size (rsA m.mo ap L.length cp af m.F.length cf) 28 := heap_alloc_last w _
 have HRNG : Hid (∀ V, Below w.heap.size w V → ∀ i, i < L.length → ∃ b off, ap = some ⟨b, off, none⟩ ∧ V.rangeAt b (off + i * 43) (pll (L.getD i zPA))) := Lib.hid fun V hV i hi => by
  obtain ⟨b, off, h1, -, h2⟩ := (hR.below hV).rg hi
  exact ⟨b, off, h1, h2⟩
 have HFU : Hid (∀ i, i < L.length → (L.getD i zPA).1.full = (m.P.getD i zPn).full ∧ ((m.P.getD i zPn).full = true → ((L.getD i zPA).1.us : Int) - 1 = ((m.P.getD i zPn).us : Int) - 1)) := Lib.hid fun i hi => by rw [hR.at hi]; exact ⟨rfl, fun _ => rfl⟩
 have HUS : Hid (∀ i, i < L.length → (m.P.getD i zPn).us ≤ 1000000) := Lib.hid fun i hi => by have := hm.us i (by omega); omega
 have HRAW : Hid (∀ i, i < L.length → (L.getD i zPA).1.e.raw.length = (m.P.getD i zPn).e.raw.length) := Lib.hid fun i hi => by rw [hR.at hi]
 have HSZ : Hid (∀ i, sizL (m.P.take i) ≤ 40000000 ∧ cntL (m.P.take i) ≤ 512) := Lib.hid fun i => by
  have h1 := siz_max hm
  have h2 := cnt_512 hm
  have h3 := siz_app (m.P.take i) (m.P.drop i)
  have h4 := cnt_app (m.P.take i) (m.P.drop i)
  rw [List.take_append_drop] at h3 h4
  omega
 generalize m.P = P at *
 obtain ⟨n, hn⟩ : ∃ n, L.length = n := ⟨_, rfl⟩
 obtain ⟨nf, hnf⟩ : ∃ n, m.F.length = n := ⟨_, rfl⟩
 obtain ⟨mo, hmo⟩ : ∃ z : Int, (m.mo : Int) = z := ⟨_, rfl⟩
 rw [hn] at HRNG HFU HUS HRAW
 rw [hn, hnf, hmo] at hb0 hX1 ⊢
 have HPL : Hid (P.length = n) := Lib.hid (by omega)
 have HNB : Hid (n ≤ 512) := Lib.hid (by omega)
 clear hR hm hpl hlen hn hnf hmo hu
 go_enter Try.func12, Try.ntmps12
 go_upto_region 1 with fail
 change Code.wp _ _ _ _ (w.alloc (.cells (rsA mo ap n cp af nf cf) 28))
 generalize w.alloc (.cells (rsA mo ap n cp af nf cf) 28) = W at *
 obtain ⟨g1, hg1⟩ : ∃ g, w.heap.size = g := ⟨_, rfl⟩
 rw [hg1] at hX1
 simp only [hg1]
 clear hg1
 have HST : Hid (Below w.heap.size w W) := Lib.hid hb0
 clear hb0
 refine wl <| gz1 (.int .i64 0) <| wn ?_
 simp only [pu]
 go_upto_region 2 with fail
 refine wl <| gz1 (.pointer (some ⟨g1, 1, none⟩)) <| gzl rfl ⟨g1, 1, none⟩ (.slice ap n cp) (hX1.load (i := 1) rfl (by kernel_rfl)) <| gz2 (.int .i64 n) (.int .i64 0) <| wn ?_
 simp only [pu]
 clear hX1
 go_wp2_with fail
 go_loopg [3, 9] n (fun gg s3 s9 wx => ∃ (i : Nat), s9 = .int .i64 i ∧ s3 = .int .i64 (cntL (P.take i)) ∧ i ≤ n ∧ gg + i = n ∧ Hid (Below w.heap.size w wx))
 case atStart => exact ⟨0, rfl, rfl, by omega, by omega, HST⟩
 case round =>
  obtain ⟨i, rfl, rfl, hin, hg, HR⟩ := hrel
  clear HST
  obtain ⟨cn, hcn⟩ : ∃ k, cntL (P.take i) = k := ⟨_, rfl⟩
  have HCN := Lib.hid hcn
  rw [hcn]
  have HGK : Hid (gk + i = n) := Lib.hid hg
  clear hg hcn
  by_cases hlt : i < n
  ·skip
   obtain ⟨b, off, hbb, hrg⟩ := HRNG.out wr HR.out i hlt
   obtain rfl := hbb
   have hP := HFU.out i hlt
   have hRW := HRAW.out i hlt
   obtain ⟨x, hx⟩ : ∃ x, L.getD i zPA = x := ⟨_, rfl⟩
   rw [hx] at hrg hP hRW
   obtain ⟨V2, hst2, hb2, hX2⟩ := new_bx (c := plA zPA) (c' := plA x) (ty := 73) wr rfl (by kernel_rfl) (by kernel_rfl)
   have HR2 : Hid (Below w.heap.size w V2) := Lib.hid (HR.out.trans (hb2.mono HR.out.size))
   go_upto_region 3 with fail
   refine wl <| gzb (lss_n rfl (i) (n) dT) <| wn ?_
   simp only [pu]
   go_upto_region 4 with fail
   refine wl <| gzv (.pointer (some ⟨b, off + i * 43, none⟩)) (idx_pl b off n cp i hlt _ _ _ rfl (by kernel_rfl) (by kernel_rfl)) <| gzl rfl ⟨b, off + i * 43, none⟩ (.agg (plA x)) (load_pl hrg) ?_
   simp only [pu]
   refine run_to rfl (some 5) rfl (.pointer (some ⟨wr.heap.size, 0, none⟩)) (wr.alloc (.cells (plA zPA) 73)) (by kernel_rfl) ?_
   simp only [pu]
   refine gzs rfl (hst2) <| wn ?_
   obtain ⟨g5, hg5⟩ : ∃ g, wr.heap.size = g := ⟨_, rfl⟩
   rw [hg5] at hX2 ⊢
   clear hst2 hb2 hrg hg5 HR
   by_cases hfu : (P.getD i zPn).full = true
   ·skip
    have hs := cnt_step P i (by have := HPL.out; omega)
    have hsz := HSZ.out (i + 1)
    unfold pb at hs
    rw [if_pos hfu, HCN.out] at hs
    go_upto_region 5 with fail
    refine wl <| gz1 (.pointer (some ⟨g5, 0, none⟩)) <| gzl rfl ⟨g5, 0, none⟩ (.bool true) (rg_cell (bx_range hX2) (j := 0) (by rw [show (some (Value.bool true)) = some (Value.bool (P.getD i zPn).full) by rw [hfu], ← hP.1]; rfl) (by kernel_rfl)) <| wn ?_
    simp only [pu]
    go_upto_region 6 with fail
    refine wl <| gz1 (.int .i64 cn) <| gzw (.int .i64 ((cn : Int) + 1)) (add_i rfl cn 1 (by omega)) <| gz1 (.int .i64 ((cn : Int) + 1)) <| wn ?_
    simp only [pu]
    clear hX2 hP
    go_upto_region 7 with fail
    refine wl <| gzv (.int .i64 (i + 1 : Nat)) (add_one rfl i (by have := HNB.out; omega) (by kernel_rfl) _) <| gz1 (.int .i64 (i + 1 : Nat)) <| wn ?_
    simp only [pu]
    go_wp2_with fail
    go_roundg (n - (i + 1))
    case measure => have := HGK.out; omega
    case rel => exact ⟨i + 1, rfl, by rw [hs]; rfl, by omega, by omega, HR2⟩
   ·skip
    have hs := cnt_step P i (by have := HPL.out; omega)
    have hsz := HSZ.out (i + 1)
    unfold pb at hs
    rw [if_neg hfu, HCN.out] at hs
    go_upto_region 5 with fail
    refine wl <| gz1 (.pointer (some ⟨g5, 0, none⟩)) <| gzl rfl ⟨g5, 0, none⟩ (.bool false) (rg_cell (bx_range hX2) (j := 0) (by rw [show (some (Value.bool false)) = some (Value.bool (P.getD i zPn).full) by rw [Bool.eq_false_iff.2 hfu], ← hP.1]; rfl) (by kernel_rfl)) <| wn ?_
    simp only [pu]
    clear hX2 hP
    go_upto_region 7 with fail
    refine wl <| gzv (.int .i64 (i + 1 : Nat)) (add_one rfl i (by have := HNB.out; omega) (by kernel_rfl) _) <| gz1 (.int .i64 (i + 1 : Nat)) <| wn ?_
    simp only [pu]
    go_wp2_with fail
    go_roundg (n - (i + 1))
    case measure => have := HGK.out; omega
    case rel => exact ⟨i + 1, rfl, by rw [hs]; rfl, by omega, by omega, HR2⟩
  ·skip
   obtain rfl : i = n := by omega
   go_upto_region 3 with fail
   refine wl <| gzb (lss_n rfl (i) (i) dF) <| wn ?_
   simp only [pu]
   have hcn := HCN.out
   rw [List.take_of_length_le (by have := HPL.out; omega)] at hcn
   have HE : Hid ((cn : Int) = (cntL P : Int)) := Lib.hid (by rw [hcn])
   clear hcn
   go_wp2_with fail
   go_ret
   exact ⟨congrArg (fun q => Ending.returned (Value.int .i64 q)) HE.out, HR.out⟩
set_option maxRecDepth 100000 in
set_option maxHeartbeats 8000000 in
theorem r_siz {w : World} {m : Sm} {L : List (Pn × Ad)} {ap af : Option Addr} {cp cf u : Nat} (hR : Rm w m L ap cp af cf) (hm : Wm m u) (hu : u ≤ 1000000) : Calls Try.prog 14 #[.agg (rsA m.mo ap L.length cp af m.F.length cf)] w (fun e w' => e = .returned (.int .i64 (sizL m.P)) ∧ Below w.heap.size w w') := by
 have hpl := hm.pl
 have hlen := hR.len
 have hb0 : Below w.heap.size w (w.alloc (.cells (rsA m.mo ap L.length cp af m.F.length cf) 28)) := (Below.refl _ w).alloc (Nat.le_refl _) _
 have hX1 : Bx (w.alloc (.cells (rsA m.mo ap L.length cp af m.F.length cf) 28)) w.heap.size (rsA m.mo ap L.length cp af m.F.length cf) 28 := heap_alloc_last w _
 have HRNG : Hid (∀ V, Below w.heap.size w V → ∀ i, i < L.length → ∃ b off, ap = some ⟨b, off, none⟩ ∧ V.rangeAt b (off + i * 43) (pll (L.getD i zPA))) := Lib.hid fun V hV i hi => by
  obtain ⟨b, off, h1, -, h2⟩ := (hR.below hV).rg hi
  exact ⟨b, off, h1, h2⟩
 have HFU : Hid (∀ i, i < L.length → (L.getD i zPA).1.full = (m.P.getD i zPn).full ∧ ((m.P.getD i zPn).full = true → ((L.getD i zPA).1.us : Int) - 1 = ((m.P.getD i zPn).us : Int) - 1)) := Lib.hid fun i hi => by rw [hR.at hi]; exact ⟨rfl, fun _ => rfl⟩
 have HUS : Hid (∀ i, i < L.length → (m.P.getD i zPn).us ≤ 1000000) := Lib.hid fun i hi => by have := hm.us i (by omega); omega
 have HRAW : Hid (∀ i, i < L.length → (L.getD i zPA).1.e.raw.length = (m.P.getD i zPn).e.raw.length) := Lib.hid fun i hi => by rw [hR.at hi]
 have HSZ : Hid (∀ i, sizL (m.P.take i) ≤ 40000000 ∧ cntL (m.P.take i) ≤ 512) := Lib.hid fun i => by
  have h1 := siz_max hm
  have h2 := cnt_512 hm
  have h3 := siz_app (m.P.take i) (m.P.drop i)
  have h4 := cnt_app (m.P.take i) (m.P.drop i)
  rw [List.take_append_drop] at h3 h4
  omega
 generalize m.P = P at *
 obtain ⟨n, hn⟩ : ∃ n, L.length = n := ⟨_, rfl⟩
 obtain ⟨nf, hnf⟩ : ∃ n, m.F.length = n := ⟨_, rfl⟩
 obtain ⟨mo, hmo⟩ : ∃ z : Int, (m.mo : Int) = z := ⟨_, rfl⟩
 rw [hn] at HRNG HFU HUS HRAW
 rw [hn, hnf, hmo] at hb0 hX1 ⊢
 have HPL : Hid (P.length = n) := Lib.hid (by omega)
 have HNB : Hid (n ≤ 512) := Lib.hid (by omega)
 clear hR hm hpl hlen hn hnf hmo hu
 go_enter Try.func14, Try.ntmps14
 go_upto_region 1 with fail
 change Code.wp _ _ _ _ (w.alloc (.cells (rsA mo ap n cp af nf cf) 28))
 generalize w.alloc (.cells (rsA mo ap n cp af nf cf) 28) = W at *
 obtain ⟨g1, hg1⟩ : ∃ g, w.heap.size = g := ⟨_, rfl⟩
 rw [hg1] at hX1
 simp only [hg1]
 clear hg1
 have HST : Hid (Below w.heap.size w W) := Lib.hid hb0
 clear hb0
 refine wl <| gz1 (.int .i64 0) <| wn ?_
 simp only [pu]
 go_upto_region 2 with fail
 refine wl <| gz1 (.pointer (some ⟨g1, 1, none⟩)) <| gzl rfl ⟨g1, 1, none⟩ (.slice ap n cp) (hX1.load (i := 1) rfl (by kernel_rfl)) <| gz2 (.int .i64 n) (.int .i64 0) <| wn ?_
 simp only [pu]
 clear hX1
 go_wp2_with fail
 go_loopg [3, 9] n (fun gg s3 s9 wx => ∃ (i : Nat), s9 = .int .i64 i ∧ s3 = .int .i64 (sizL (P.take i)) ∧ i ≤ n ∧ gg + i = n ∧ Hid (Below w.heap.size w wx))
 case atStart => exact ⟨0, rfl, rfl, by omega, by omega, HST⟩
 case round =>
  obtain ⟨i, rfl, rfl, hin, hg, HR⟩ := hrel
  clear HST
  obtain ⟨cn, hcn⟩ : ∃ k, sizL (P.take i) = k := ⟨_, rfl⟩
  have HCN := Lib.hid hcn
  rw [hcn]
  have HGK : Hid (gk + i = n) := Lib.hid hg
  clear hg hcn
  by_cases hlt : i < n
  ·skip
   obtain ⟨b, off, hbb, hrg⟩ := HRNG.out wr HR.out i hlt
   obtain rfl := hbb
   have hP := HFU.out i hlt
   have hRW := HRAW.out i hlt
   obtain ⟨x, hx⟩ : ∃ x, L.getD i zPA = x := ⟨_, rfl⟩
   rw [hx] at hrg hP hRW
   obtain ⟨V2, hst2, hb2, hX2⟩ := new_bx (c := plA zPA) (c' := plA x) (ty := 73) wr rfl (by kernel_rfl) (by kernel_rfl)
   have HR2 : Hid (Below w.heap.size w V2) := Lib.hid (HR.out.trans (hb2.mono HR.out.size))
   go_upto_region 3 with fail
   refine wl <| gzb (lss_n rfl (i) (n) dT) <| wn ?_
   simp only [pu]
   go_upto_region 4 with fail
   refine wl <| gzv (.pointer (some ⟨b, off + i * 43, none⟩)) (idx_pl b off n cp i hlt _ _ _ rfl (by kernel_rfl) (by kernel_rfl)) <| gzl rfl ⟨b, off + i * 43, none⟩ (.agg (plA x)) (load_pl hrg) ?_
   simp only [pu]
   refine run_to rfl (some 5) rfl (.pointer (some ⟨wr.heap.size, 0, none⟩)) (wr.alloc (.cells (plA zPA) 73)) (by kernel_rfl) ?_
   simp only [pu]
   refine gzs rfl (hst2) <| wn ?_
   obtain ⟨g5, hg5⟩ : ∃ g, wr.heap.size = g := ⟨_, rfl⟩
   rw [hg5] at hX2 ⊢
   clear hst2 hb2 hrg hg5 HR
   by_cases hfu : (P.getD i zPn).full = true
   ·skip
    have hs := siz_step P i (by have := HPL.out; omega)
    have hsz := HSZ.out (i + 1)
    unfold pb at hs
    rw [if_pos hfu, HCN.out] at hs
    go_upto_region 5 with fail
    refine wl <| gz1 (.pointer (some ⟨g5, 0, none⟩)) <| gzl rfl ⟨g5, 0, none⟩ (.bool true) (rg_cell (bx_range hX2) (j := 0) (by rw [show (some (Value.bool true)) = some (Value.bool (P.getD i zPn).full) by rw [hfu], ← hP.1]; rfl) (by kernel_rfl)) <| wn ?_
    simp only [pu]
    go_upto_region 6 with fail
    refine wl <| gz3 (.int .i64 cn) (.pointer (some ⟨g5, 2, none⟩)) (.pointer (some ⟨g5, 34, none⟩)) <| gzl rfl ⟨g5, 34, none⟩ (.slice x.2.ra x.1.e.raw.length x.2.rc) (rg_cell (bx_range hX2) (j := 34) rfl (by kernel_rfl)) <| gz1 (.int .i64 x.1.e.raw.length) <|
     gzw (.int .i64 ((cn : Int) + x.1.e.raw.length)) (add_i rfl cn x.1.e.raw.length (by rw [hRW]; omega)) <| gz1 (.int .i64 ((cn : Int) + x.1.e.raw.length)) <| wn ?_
    simp only [pu]
    clear hX2 hP
    go_upto_region 7 with fail
    refine wl <| gzv (.int .i64 (i + 1 : Nat)) (add_one rfl i (by have := HNB.out; omega) (by kernel_rfl) _) <| gz1 (.int .i64 (i + 1 : Nat)) <| wn ?_
    simp only [pu]
    go_wp2_with fail
    go_roundg (n - (i + 1))
    case measure => have := HGK.out; omega
    case rel => exact ⟨i + 1, rfl, by rw [hs, hRW]; rfl, by omega, by omega, HR2⟩
   ·skip
    have hs := siz_step P i (by have := HPL.out; omega)
    have hsz := HSZ.out (i + 1)
    unfold pb at hs
    rw [if_neg hfu, HCN.out] at hs
    go_upto_region 5 with fail
    refine wl <| gz1 (.pointer (some ⟨g5, 0, none⟩)) <| gzl rfl ⟨g5, 0, none⟩ (.bool false) (rg_cell (bx_range hX2) (j := 0) (by rw [show (some (Value.bool false)) = some (Value.bool (P.getD i zPn).full) by rw [Bool.eq_false_iff.2 hfu], ← hP.1]; rfl) (by kernel_rfl)) <| wn ?_
    simp only [pu]
    clear hX2 hP
    go_upto_region 7 with fail
    refine wl <| gzv (.int .i64 (i + 1 : Nat)) (add_one rfl i (by have := HNB.out; omega) (by kernel_rfl) _) <| gz1 (.int .i64 (i + 1 : Nat)) <| wn ?_
    simp only [pu]
    go_wp2_with fail
    go_roundg (n - (i + 1))
    case measure => have := HGK.out; omega
    case rel => exact ⟨i + 1, rfl, by rw [hs]; rfl, by omega, by omega, HR2⟩
  ·skip
   obtain rfl : i = n := by omega
   go_upto_region 3 with fail
   refine wl <| gzb (lss_n rfl (i) (i) dF) <| wn ?_
   simp only [pu]
   have hcn := HCN.out
   rw [List.take_of_length_le (by have := HPL.out; omega)] at hcn
   have HE : Hid ((cn : Int) = (sizL P : Int)) := Lib.hid (by rw [hcn])
   clear hcn
   go_wp2_with fail
   go_ret
   exact ⟨congrArg (fun q => Ending.returned (Value.int .i64 q)) HE.out, HR.out⟩
set_option maxRecDepth 100000 in
set_option maxHeartbeats 8000000 in
theorem r_han {w : World} {m : Sm} {L : List (Pn × Ad)} {ap af : Option Addr} {cp cf u : Nat} (hR : Rm w m L ap cp af cf) (hm : Wm m u) (hu : u ≤ 1000000) : Calls Try.prog 16 #[.agg (rsA m.mo ap L.length cp af m.F.length cf)] w (HdO w (hndL 0 m.P)) := by
 have hpl := hm.pl
 have hlen := hR.len
 have hb0 : Below w.heap.size w (w.alloc (.cells (rsA m.mo ap L.length cp af m.F.length cf) 28)) := (Below.refl _ w).alloc (Nat.le_refl _) _
 have hX1 : Bx (w.alloc (.cells (rsA m.mo ap L.length cp af m.F.length cf) 28)) w.heap.size (rsA m.mo ap L.length cp af m.F.length cf) 28 := heap_alloc_last w _
 have HRNG : Hid (∀ V, Below w.heap.size w V → ∀ i, i < L.length → ∃ b off, ap = some ⟨b, off, none⟩ ∧ V.rangeAt b (off + i * 43) (pll (L.getD i zPA))) := Lib.hid fun V hV i hi => by
  obtain ⟨b, off, h1, -, h2⟩ := (hR.below hV).rg hi
  exact ⟨b, off, h1, h2⟩
 have HFU : Hid (∀ i, i < L.length → (L.getD i zPA).1.full = (m.P.getD i zPn).full ∧ ((m.P.getD i zPn).full = true → ((L.getD i zPA).1.us : Int) - 1 = ((m.P.getD i zPn).us : Int) - 1)) := Lib.hid fun i hi => by rw [hR.at hi]; exact ⟨rfl, fun _ => rfl⟩
 have HUS : Hid (∀ i, i < L.length → (m.P.getD i zPn).us ≤ 1000000) := Lib.hid fun i hi => by have := hm.us i (by omega); omega
 have HRAW : Hid (∀ i, i < L.length → (L.getD i zPA).1.e.raw.length = (m.P.getD i zPn).e.raw.length) := Lib.hid fun i hi => by rw [hR.at hi]
 have HSZ : Hid (∀ i, sizL (m.P.take i) ≤ 40000000 ∧ cntL (m.P.take i) ≤ 512) := Lib.hid fun i => by
  have h1 := siz_max hm
  have h2 := cnt_512 hm
  have h3 := siz_app (m.P.take i) (m.P.drop i)
  have h4 := cnt_app (m.P.take i) (m.P.drop i)
  rw [List.take_append_drop] at h3 h4
  omega
 generalize m.P = P at *
 obtain ⟨n, hn⟩ : ∃ n, L.length = n := ⟨_, rfl⟩
 obtain ⟨nf, hnf⟩ : ∃ n, m.F.length = n := ⟨_, rfl⟩
 obtain ⟨mo, hmo⟩ : ∃ z : Int, (m.mo : Int) = z := ⟨_, rfl⟩
 rw [hn] at HRNG HFU HUS HRAW
 rw [hn, hnf, hmo] at hb0 hX1 ⊢
 have HPL : Hid (P.length = n) := Lib.hid (by omega)
 have HNB : Hid (n ≤ 512) := Lib.hid (by omega)
 clear hR hm hpl hlen hn hnf hmo hu
 go_enter Try.func16, Try.ntmps16
 go_upto_region 1 with fail
 change Code.wp _ _ _ _ (w.alloc (.cells (rsA mo ap n cp af nf cf) 28))
 generalize w.alloc (.cells (rsA mo ap n cp af nf cf) 28) = W at *
 obtain ⟨g1, hg1⟩ : ∃ g, w.heap.size = g := ⟨_, rfl⟩
 rw [hg1] at hX1
 simp only [hg1]
 clear hg1
 have HST : Hid (RowH W w.heap.size (.slice none (hndL 0 (P.take 0)).length 0) (hndL 0 (P.take 0)) ∧ Below w.heap.size w W) := Lib.hid ⟨RowH.nil _ _, hb0⟩
 clear hb0
 refine wl <| gz1 (.slice none 0 0) <| wn ?_
 simp only [pu]
 go_upto_region 2 with fail
 refine wl <| gz1 (.pointer (some ⟨g1, 1, none⟩)) <| gzl rfl ⟨g1, 1, none⟩ (.slice ap n cp) (hX1.load (i := 1) rfl (by kernel_rfl)) <| gz2 (.int .i64 n) (.int .i64 0) <| wn ?_
 simp only [pu]
 clear hX1
 go_wp2_with fail
 go_loopg [3, 9] n (fun gg s3 s9 wx => ∃ (i : Nat) (a2 : Option Addr) (c2 : Nat), s9 = .int .i64 i ∧ s3 = .slice a2 (hndL 0 (P.take i)).length c2 ∧ i ≤ n ∧ gg + i = n ∧ Hid (RowH wx w.heap.size (.slice a2 (hndL 0 (P.take i)).length c2) (hndL 0 (P.take i)) ∧ Below w.heap.size w wx))
 case atStart => exact ⟨0, _, _, rfl, rfl, by omega, by omega, HST⟩
 case round =>
  obtain ⟨i, a2, c2, rfl, rfl, hin, hg, HR⟩ := hrel
  clear HST
  obtain ⟨len, hlen⟩ : ∃ k, (hndL 0 (P.take i)).length = k := ⟨_, rfl⟩
  have HLEN := Lib.hid hlen
  rw [hlen]
  have HGK : Hid (gk + i = n) := Lib.hid hg
  clear hg hlen
  by_cases hlt : i < n
  ·skip
   obtain ⟨b, off, hbb, hrg⟩ := HRNG.out wr HR.out.2 i hlt
   obtain rfl := hbb
   have hP := HFU.out i hlt
   obtain ⟨x, hx⟩ : ∃ x, L.getD i zPA = x := ⟨_, rfl⟩
   rw [hx] at hrg hP
   obtain ⟨V2, hst2, hb2, hX2⟩ := new_bx (c := plA zPA) (c' := plA x) (ty := 73) wr rfl (by kernel_rfl) (by kernel_rfl)
   have HR2 := Lib.hid (⟨HR.out.1.below hb2, HR.out.2.trans (hb2.mono HR.out.2.size)⟩ : RowH V2 w.heap.size (.slice a2 (hndL 0 (P.take i)).length c2) (hndL 0 (P.take i)) ∧ Below w.heap.size w V2)
   go_upto_region 3 with fail
   refine wl <| gzb (lss_n rfl (i) (n) dT) <| wn ?_
   simp only [pu]
   go_upto_region 4 with fail
   refine wl <| gz1 (.int .i64 i) <| gzv (.pointer (some ⟨b, off + i * 43, none⟩)) (idx_pl b off n cp i hlt _ _ _ rfl (by kernel_rfl) (by kernel_rfl)) <| gzl rfl ⟨b, off + i * 43, none⟩ (.agg (plA x)) (load_pl hrg) ?_
   simp only [pu]
   refine run_to rfl (some 5) rfl (.pointer (some ⟨wr.heap.size, 0, none⟩)) (wr.alloc (.cells (plA zPA) 73)) (by kernel_rfl) ?_
   simp only [pu]
   refine gz1 (.int .i64 i) <| gzs rfl (hst2) <| wn ?_
   simp only [pu]
   obtain ⟨g5, hg5⟩ : ∃ g, wr.heap.size = g := ⟨_, rfl⟩
   rw [hg5] at hX2 ⊢
   clear hst2 hb2 hrg hg5 HR
   by_cases hfu : (P.getD i zPn).full = true
   ·skip
    have hs := hnd_step P i (by have := HPL.out; omega)
    rw [if_pos hfu] at hs
    go_upto_region 5 with fail
    refine wl <| gz1 (.pointer (some ⟨g5, 0, none⟩)) <| gzl rfl ⟨g5, 0, none⟩ (.bool true) (rg_cell (bx_range hX2) (j := 0) (by rw [show (some (Value.bool true)) = some (Value.bool (P.getD i zPn).full) by rw [hfu], ← hP.1]; rfl) (by kernel_rfl)) <| wn ?_
    simp only [pu]
    have hus := hP.2 hfu
    obtain ⟨q1, hq1⟩ : ∃ q : Int, ((P.getD i zPn).us : Int) - 1 = q := ⟨_, rfl⟩
    rw [hq1] at hs hus
    have HUB : Hid (q1 = ((P.getD i zPn).us : Int) - 1) := Lib.hid hq1.symm
    obtain ⟨a7, c7, V6, hap, hr6, hb6⟩ := grow_hn HR2.out.1 HR2.out.2.size ((i : Int), q1) (by have := hnd_len 0 (P.take i); rw [List.length_take] at this; have := HNB.out; omega)
    rw [HLEN.out] at hap
    have hbd := build_hn ((i : Int), q1) V2
    rw [← hs] at hr6 hap
    have HR6 := Lib.hid (⟨hr6, HR2.out.2.trans hb6⟩ : RowH V6 w.heap.size (.slice a7 (hndL 0 (P.take (i + 1))).length c7) (hndL 0 (P.take (i + 1))) ∧ Below w.heap.size w V6)
    clear hq1 hs hr6 hb6 hP
    go_upto_region 6 with fail
    refine wl <| gz3 (.slice a2 len c2) (.int .i64 i) (.pointer (some ⟨g5, 1, none⟩)) <| gzl rfl ⟨g5, 1, none⟩ (.int .i64 x.1.us) (rg_cell (bx_range hX2) (j := 1) rfl (by kernel_rfl)) <|
     gzv (.int .i64 q1) (by rw [← hus]; exact sub_i rfl x.1.us 1 (by have := HUS.out i hlt; have := HUB.out; have := hus; omega) (by kernel_rfl) (by kernel_rfl) _) <| gz1 (.agg #[.int .i64 i, .int .i64 q1]) ?_
    simp only [pu]
    refine gw_build (by kernel_rfl) (some 22) rfl 36 1 #[(0, .tmp 21)] rfl #[(0, .agg (hnA ((i : Int), q1)))] (by kernel_rfl) (.slice (some ⟨V2.heap.size, 0, none⟩) 1 1) _ hbd ?_
    simp only [pu]
    refine append_step rfl (some 23) rfl 36 rfl (.tmp 16) (.tmp 22) 36 rfl (.slice a2 len c2) (.slice (some ⟨V2.heap.size, 0, none⟩) 1 1) (.slice a7 (hndL 0 (P.take (i + 1))).length c7) V6 (by kernel_rfl) (by kernel_rfl) hap ?_
    simp only [pu]
    refine gz1 (.slice a7 (hndL 0 (P.take (i + 1))).length c7) <| wn ?_
    simp only [pu]
    clear hap hbd hX2 hus HR2
    go_upto_region 7 with fail
    refine wl <| gzv (.int .i64 (i + 1 : Nat)) (add_one rfl i (by have := HNB.out; omega) (by kernel_rfl) _) <| gz1 (.int .i64 (i + 1 : Nat)) <| wn ?_
    simp only [pu]
    go_wp2_with fail
    go_roundg (n - (i + 1))
    case measure => have := HGK.out; omega
    case rel => exact ⟨i + 1, a7, c7, rfl, rfl, by omega, by omega, HR6⟩
   ·skip
    have hs := hnd_step P i (by have := HPL.out; omega)
    rw [if_neg hfu] at hs
    go_upto_region 5 with fail
    refine wl <| gz1 (.pointer (some ⟨g5, 0, none⟩)) <| gzl rfl ⟨g5, 0, none⟩ (.bool false) (rg_cell (bx_range hX2) (j := 0) (by rw [show (some (Value.bool false)) = some (Value.bool (P.getD i zPn).full) by rw [Bool.eq_false_iff.2 hfu], ← hP.1]; rfl) (by kernel_rfl)) <| wn ?_
    simp only [pu]
    rw [List.append_nil] at hs
    clear hX2 hP
    go_upto_region 7 with fail
    refine wl <| gzv (.int .i64 (i + 1 : Nat)) (add_one rfl i (by have := HNB.out; omega) (by kernel_rfl) _) <| gz1 (.int .i64 (i + 1 : Nat)) <| wn ?_
    simp only [pu]
    go_wp2_with fail
    go_roundg (n - (i + 1))
    case measure => have := HGK.out; omega
    case rel => exact ⟨i + 1, a2, c2, rfl, by rw [hs, HLEN.out], by omega, by omega, by rw [hs]; exact HR2⟩
  ·skip
   obtain rfl : i = n := by omega
   go_upto_region 3 with fail
   refine wl <| gzb (lss_n rfl (i) (i) dF) <| wn ?_
   simp only [pu]
   have HE : Hid (HdO w (hndL 0 P) (.returned (.slice a2 len c2)) wr) := Lib.hid (by have h1 := HR.out; rw [List.take_of_length_le (by have := HPL.out; omega)] at h1; refine ⟨a2, c2, ?_, h1.1, h1.2⟩; rw [← HLEN.out, List.take_of_length_le (by have := HPL.out; omega)])
   go_wp2_with fail
   go_ret
   exact HE.out
set_option maxRecDepth 100000 in
set_option maxHeartbeats 8000000 in
theorem r_new (k : Int) (w : World) : Calls Try.prog 27 #[.int .i64 k] w fun e w' => e = .returned (.agg (rsA (newS k).mo none 0 0 none 0 0)) ∧ Below w.heap.size w w' := by
 have hz : max 0 (min k 512) = ((newS k).mo : Int) := by show _ = ((capS k : Nat) : Int); unfold capS; omega
 have hb0 : Below w.heap.size w (w.alloc (.cells (rsA 0 none 0 0 none 0 0) 28)) := (Below.refl _ w).alloc (Nat.le_refl _) _
 have hX : Bx (w.alloc (.cells (rsA 0 none 0 0 none 0 0) 28)) w.heap.size (rsA 0 none 0 0 none 0 0) 28 := heap_alloc_last w _
 obtain ⟨V2, hst, hY, hbt⟩ := st_all (cs' := rsA (max 0 (min k 512)) none 0 0 none 0 0) (ty := 28) hX rfl (by simp [Value.oneCell']) (by kernel_rfl)
 have HE := Lib.hid (hb0.trans hbt.1)
 have HZ := Lib.hid hz
 have HL := Lib.hid (run_loadAt_mid (P := Try.prog) V2 w.heap.size 0 28 [.int .i64 (max 0 (min k 512)), .slice none 0 0, .slice none 0 0] _ (bx_range hY) Try.underlying28 rfl (by kernel_rfl))
 clear hb0 hX hbt hY hz
 go_enter Try.func27, Try.ntmps27
 go_upto_region 1 with fail
 change Code.wp _ _ _ _ (w.alloc (.cells (rsA 0 none 0 0 none 0 0) 28))
 generalize w.alloc (.cells (rsA 0 none 0 0 none 0 0) 28) = W at *
 refine wl <| gz1 (.int .i64 k) <| gzw (.int .i64 (min k 512)) (min_i rfl k 512) <| gzw (.int .i64 (max 0 (min k 512))) (max_i rfl 0 (min k 512)) <| gz1 (.agg (rsA (max 0 (min k 512)) none 0 0 none 0 0)) <| gzs rfl (hst) <|
  wpList_nil ?_
 simp only [pu]
 clear hst
 go_wp2_with fail
 exact bodyPost_ret (results_1c rfl (by kernel_rfl) HL.out) rfl ⟨by rw [← HZ.out], HE.out⟩
end Go.Proofs.Ytmpajgaanghpoaa
