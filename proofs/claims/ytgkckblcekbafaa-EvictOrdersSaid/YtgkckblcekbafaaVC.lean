/-
  Victims as plain data; total and fits, the program's and the reference's: contracts.
-/
import Derived.Test.YtgkckblcekbafaaRO
namespace Go.Proofs.Ytgkckblcekbafaa
attribute [local irreducible] wpList wpQuiet
open Go.RowKit
set_option maxRecDepth 100000
set_option linter.unusedSimpArgs false
set_option linter.unusedVariables false

set_option maxRecDepth 100000 in
set_option maxHeartbeats 8000000 in
theorem q_total {w : World} {a : Option Addr} {c : Nat} {X : List (En × Ad)} (h : Xr w a X) (hl : X.length ≤ 100000) (hr : rawL (lE X) ≤ 40000000) : Calls Try.prog 26 #[.slice a X.length c] w fun e w' => e = .returned (.int .i64 (rawL (lE X))) ∧ Below w.heap.size w w' := by
 have HRNG : Hid (∀ V, Below w.heap.size w V → ∀ i, i < X.length → ∃ b off, a = some ⟨b, off, none⟩ ∧ V.rangeAt b (off + i * 41) (enp (X.getD i zEA))) := Lib.hid fun V hV i hi => by
  obtain ⟨b, off, h1, -, h2⟩ := (h.below hV).rg hi
  exact ⟨b, off, h1, h2⟩
 have HL := lE_at X
 have HLL := lE_len X
 generalize lE X = L at *
 have HSZ : Hid (∀ i, rawL (L.take i) ≤ 40000000) := Lib.hid fun i => Nat.le_trans (raw_sub (List.take_sublist i L)) hr
 have HKX : Hid (∀ i, i < X.length → (L.getD i zEn) = (X.getD i zEA).1) := Lib.hid HL
 obtain ⟨n, hn⟩ : ∃ n, X.length = n := ⟨_, rfl⟩
 rw [hn] at HRNG HLL HKX hl ⊢
 have HN := Lib.hid hl
 have HLN := Lib.hid HLL
 have HST := Lib.hid (Below.refl w.heap.size w)
 clear h hn HL HLL hl hr
 go_enter Try.func26, Try.ntmps26
 go_upto_region 1 with fail
 refine wl <| gz1 (.int .i64 0) <| wn ?_
 simp only [pu]
 go_upto_region 2 with fail
 refine wl <| gz3 (.slice a n c) (.int .i64 n) (.int .i64 0) <| wn ?_
 simp only [pu]
 go_wp2_with fail
 go_loopg [3, 8] n (fun gg s3 s8 wx => ∃ (i : Nat), s8 = .int .i64 i ∧ s3 = .int .i64 (rawL (L.take i)) ∧ i ≤ n ∧ gg + i = n ∧ Hid (Below w.heap.size w wx))
 case atStart => exact ⟨0, rfl, rfl, by omega, by omega, HST⟩
 case round =>
  obtain ⟨i, rfl, rfl, hin, hg, HR⟩ := hrel
  clear HST
  obtain ⟨cn, hcn⟩ : ∃ k, rawL (L.take i) = k := ⟨_, rfl⟩
  have HCN := Lib.hid hcn
  rw [hcn]
  have HGK : Hid (gk + i = n) := Lib.hid hg
  clear hg hcn
  by_cases hlt : i < n
  ·skip
   obtain ⟨b, off, hbb, hrg⟩ := HRNG.out wr HR.out i hlt
   obtain rfl := hbb
   have hkx := HKX.out i hlt
   obtain ⟨x, hx⟩ : ∃ x, X.getD i zEA = x := ⟨_, rfl⟩
   rw [hx] at hrg hkx
   obtain ⟨V2, hst2, hb2, hX5⟩ := new_bx (c := enA zEn zAd) (c' := enA x.1 x.2) (ty := 50) wr rfl (enA_one _ _) (by kernel_rfl)
   have HR2 := Lib.hid (HR.out.trans (hb2.mono HR.out.size))
   have hs := raw_step L i (by have := HLN.out; omega)
   have hsz := HSZ.out (i + 1)
   rw [HCN.out, hkx] at hs
   have HS := Lib.hid hs
   have HZ : Hid (cn + x.1.raw.length ≤ 40000000) := Lib.hid (by omega)
   clear hx hkx HR hs hsz
   go_upto_region 3 with fail
   refine wl <| gzb (lss_n rfl (i) (n) dT) <| wn ?_
   simp only [pu]
   go_upto_region 4 with fail
   refine wl <| gzv (.pointer (some ⟨b, off + i * 41, none⟩)) (idx_en b off n c i hlt _ _ _ rfl (by kernel_rfl) (by kernel_rfl)) <| gzl rfl ⟨b, off + i * 41, none⟩ (.agg (enA x.1 x.2)) (load_en hrg) ?_
   simp only [pu]
   refine run_to rfl (some 5) rfl (.pointer (some ⟨wr.heap.size, 0, none⟩)) (wr.alloc (.cells (enA zEn zAd) 50)) (by kernel_rfl) ?_
   simp only [pu]
   refine gzs rfl (hst2) <| wn ?_
   obtain ⟨g5, hg5⟩ : ∃ g, wr.heap.size = g := ⟨_, rfl⟩
   rw [hg5] at hX5 ⊢
   clear hst2 hb2 hrg hg5
   go_upto_region 5 with fail
   refine wl <| gz2 (.int .i64 cn) (.pointer (some ⟨g5, 32, none⟩)) <| gzl rfl ⟨g5, 32, none⟩ (.slice x.2.ra x.1.raw.length x.2.rc) (rg_cell (bx_range hX5) (j := 32) rfl (by kernel_rfl)) <| gz1 (.int .i64 x.1.raw.length) <|
    gzw (.int .i64 ((cn : Int) + x.1.raw.length)) (add_i rfl cn x.1.raw.length (by have := HZ.out; omega)) <| gz1 (.int .i64 ((cn : Int) + x.1.raw.length)) <| wn ?_
   simp only [pu]
   clear hX5
   go_upto_region 6 with fail
   refine wl <| gzv (.int .i64 (i + 1 : Nat)) (add_one rfl i (by have := HN.out; omega) (by kernel_rfl) _) <| gz1 (.int .i64 (i + 1 : Nat)) <| wn ?_
   simp only [pu]
   go_wp2_with fail
   go_roundg (n - (i + 1))
   case measure => have := HGK.out; omega
   case rel => exact ⟨i + 1, rfl, by rw [HS.out]; rfl, by omega, by omega, HR2⟩
  ·skip
   obtain rfl : i = n := by omega
   go_upto_region 3 with fail
   refine wl <| gzb (lss_n rfl (i) (i) dF) <| wn ?_
   simp only [pu]
   have hcn := HCN.out
   rw [List.take_of_length_le (by have := HLN.out; omega)] at hcn
   have HE : Hid ((cn : Int) = (rawL L : Int)) := Lib.hid (by rw [hcn])
   clear hcn
   go_upto_region 7 with fail
   refine wl <| gz2 (.int .i64 cn) (.int .i64 cn) <| wn ?_
   simp only [pu]
   go_wp2_with fail
   go_ret
   exact ⟨congrArg (fun q => Ending.returned (Value.int .i64 q)) HE.out, HR.out⟩

/-- The first place below n where q is true; n if there is none. -/
def fwN (q : Nat → Bool) : Nat → Nat
  | 0 => 0
  | n + 1 => if fwN q n < n then fwN q n else if q n then n else n + 1
theorem fw_le (q : Nat → Bool) : ∀ n, fwN q n ≤ n
  | 0 => Nat.le_refl _
  | n + 1 => by
    unfold fwN
    have := fw_le q n
    split
    · omega
    · split <;> omega
theorem fw_no {q : Nat → Bool} : ∀ {n j : Nat}, j < fwN q n → q j = false
  | 0, j, h => by simp [fwN] at h
  | n + 1, j, h => by
    unfold fwN at h
    have hl := fw_le q n
    split at h
    · exact fw_no h
    · rename_i h1
      have h2 : fwN q n = n := by omega
      split at h
      · exact fw_no (n := n) (by omega)
      · rename_i h3
        rcases Nat.lt_or_ge j n with h4 | h4
        · exact fw_no (n := n) (by omega)
        · obtain rfl : j = n := by omega
          simpa using h3
theorem fw_yes {q : Nat → Bool} : ∀ {n : Nat}, fwN q n < n → q (fwN q n) = true
  | 0, h => by omega
  | n + 1, h => by
    unfold fwN at h ⊢
    split
    · rename_i h1
      exact fw_yes h1
    · rename_i h1
      rw [if_neg h1] at h
      split
      · rename_i h2
        exact h2
      · rename_i h2
        rw [if_neg h2] at h
        omega
theorem fw_eq {q : Nat → Bool} {n k : Nat} (hk : k ≤ n) (h0 : ∀ j, j < k → q j = false) (h1 : k < n → q k = true) : fwN q n = k := by
  have hl := fw_le q n
  rcases Nat.lt_trichotomy (fwN q n) k with h | h | h
  · have := fw_yes (q := q) (n := n) (by omega)
    rw [h0 _ h] at this; cases this
  · exact h
  · have := fw_no h
    rw [h1 (by omega)] at this; cases this
/-- There is room for one more of this size. -/
def fitB (sz mt mb : Int) (c b : Nat) : Bool := decide ((c : Int) < mt) && (decide (sz ≤ mb) && decide ((b : Int) ≤ mb - sz))
theorem fit_iff {sz mt mb : Int} {c b : Nat} : fitB sz mt mb c b = true ↔ ((c : Int) < mt ∧ sz ≤ mb ∧ (b : Int) ≤ mb - sz) := by simp [fitB]
theorem fit_no {sz mt mb : Int} {c b : Nat} : fitB sz mt mb c b = false ↔ ¬ ((c : Int) < mt ∧ sz ≤ mb ∧ (b : Int) ≤ mb - sz) := by rw [← fit_iff]; simp
/-- Behind j entries that leave. -/
def fitJ (O : List En) (sz mt mb : Int) (j : Nat) : Bool := fitB sz mt mb (O.length - j) (rawL O - rawL (O.take j))
def stpJ (O : List En) (pri sz mt mb : Int) (j : Nat) : Bool := fitJ O sz mt mb j || decide (pri ≤ (O.getD j zEn).pri)
/-- How many leave, whether that makes room, and their keys. -/
def vicN (O : List En) (pri sz mt mb : Int) : Nat := fwN (stpJ O pri sz mt mb) O.length
def vicB (O : List En) (pri sz mt mb : Int) : Bool := fitJ O sz mt mb (vicN O pri sz mt mb)
def vicK (O : List En) (pri sz mt mb : Int) : List (Nat → Int) := if vicB O pri sz mt mb then (O.take (vicN O pri sz mt mb)).map En.k else []
theorem stp_iff {O : List En} {pri sz mt mb : Int} {j : Nat} : stpJ O pri sz mt mb j = true ↔ (fitJ O sz mt mb j = true ∨ pri ≤ (O.getD j zEn).pri) := by simp [stpJ]
theorem stp_no {O : List En} {pri sz mt mb : Int} {j : Nat} : stpJ O pri sz mt mb j = false ↔ (fitJ O sz mt mb j = false ∧ (O.getD j zEn).pri < pri) := by
  unfold stpJ
  rw [Bool.or_eq_false_iff, decide_eq_false_iff_not]
  constructor
  · rintro ⟨h1, h2⟩; exact ⟨h1, by omega⟩
  · rintro ⟨h1, h2⟩; exact ⟨h1, by omega⟩
section
variable {ρ : Operand → Value} {o : Oper} {x y : Operand}
theorem sub_w (ho : o.op = .binOp .sub 3 x y 3) (a b : Int) (h : -9223372036854775808 ≤ a - b ∧ a - b < 9223372036854775808) (hx : ρ x = .int .i64 a) (hy : ρ y = .int .i64 b) (w : World) : (execOp ρ o).run Try.prog w = .ok (.value (.int .i64 (a - b))) w := by
  have hw : IntKind.i64.wrap (a - b) = a - b := by simp [IntKind.wrap, IntKind.bits, IntKind.signed]; omega
  unfold execOp
  simp only [ho, hx, hy]
  go_simp
end
set_option maxRecDepth 100000 in
set_option maxHeartbeats 8000000 in
theorem r_fits (w : World) (b : Nat) (sz mb : Int) (hb : b < 4611686018427387904) (hs : 0 ≤ sz) (hm : mb < 9223372036854775808) : Calls Try.prog 27 #[.int .i64 b, .int .i64 sz, .int .i64 mb] w fun e w' => e = .returned (.bool (decide ((b : Int) ≤ mb) && decide (sz ≤ mb - b))) ∧ w = w' := by
  have HN : Hid (b < 4611686018427387904 ∧ 0 ≤ sz ∧ mb < 9223372036854775808) := Lib.hid ⟨hb, hs, hm⟩
  clear hb hs hm
  obtain ⟨Q, hQ⟩ : ∃ Q : Bool, (decide ((b : Int) ≤ mb) && decide (sz ≤ mb - b)) = Q := ⟨_, rfl⟩
  rw [hQ]
  by_cases h1 : (b : Int) ≤ mb
  · by_cases h2 : sz ≤ mb - b
    · have HQ : Hid (true = Q) := Lib.hid (by rw [← hQ, decide_eq_true h1, decide_eq_true h2]; rfl)
      clear hQ
      go_enter Try.func27, Try.ntmps27
      go_upto_region 1 with fail
      refine wl <| gz2 (.int .i64 b) (.int .i64 mb) <| gzb (leq_n rfl (b) (mb) (decide_eq_true (h1))) <| gz4 (.bool true) (.int .i64 sz) (.int .i64 mb) (.int .i64 b) <|
        gzw (.int .i64 (mb - b)) (sub_w rfl mb b (by have := HN.out; omega)) <| gzb (leq_n rfl (sz) ((mb - b)) (decide_eq_true (h2))) <| gz2 (.bool true) (.bool true) <| wn ?_
      simp only [pu]
      go_wp2_with fail
      go_ret
      exact ⟨congrArg (fun q => Ending.returned (Value.bool q)) HQ.out, rfl⟩
    · have HQ : Hid (false = Q) := Lib.hid (by rw [← hQ, decide_eq_true h1, decide_eq_false h2]; rfl)
      clear hQ
      go_enter Try.func27, Try.ntmps27
      go_upto_region 1 with fail
      refine wl <| gz2 (.int .i64 b) (.int .i64 mb) <| gzb (leq_n rfl (b) (mb) (decide_eq_true (h1))) <| gz4 (.bool true) (.int .i64 sz) (.int .i64 mb) (.int .i64 b) <|
        gzw (.int .i64 (mb - b)) (sub_w rfl mb b (by have := HN.out; omega)) <| gzb (leq_n rfl (sz) ((mb - b)) (decide_eq_false (h2))) <| gz2 (.bool false) (.bool false) <| wn ?_
      simp only [pu]
      go_wp2_with fail
      go_ret
      exact ⟨congrArg (fun q => Ending.returned (Value.bool q)) HQ.out, rfl⟩
  · have HQ : Hid (false = Q) := Lib.hid (by rw [← hQ, decide_eq_false h1]; rfl)
    clear hQ
    go_enter Try.func27, Try.ntmps27
    go_upto_region 1 with fail
    refine wl <| gz2 (.int .i64 b) (.int .i64 mb) <| gzb (leq_n rfl (b) (mb) (decide_eq_false (h1))) <| gz6 (.bool false) undef undef undef undef undef <| gz2 (.bool false) (.bool false) <| wn ?_
    simp only [pu]
    go_wp2_with fail
    go_ret
    exact ⟨congrArg (fun q => Ending.returned (Value.bool q)) HQ.out, rfl⟩
set_option maxRecDepth 100000 in
set_option maxHeartbeats 8000000 in
theorem q_fits {w : World} {g2 g3 g4 : Nat} {mt sz mb : Int} (h2 : Bx w g2 #[.int .i64 mt] 3) (h3 : Bx w g3 #[.int .i64 sz] 3) (h4 : Bx w g4 #[.int .i64 mb] 3) (c b : Nat) (hs : 0 ≤ sz) (hm : mb < 9223372036854775808) : Calls Try.prog 25 #[.int .i64 c, .int .i64 b, .pointer (some ⟨g2, 0, none⟩), .pointer (some ⟨g3, 0, none⟩), .pointer (some ⟨g4, 0, none⟩)] w fun e w' => e = .returned (.bool (fitB sz mt mb c b)) ∧ w = w' := by
  have HN : Hid (0 ≤ sz ∧ mb < 9223372036854775808) := Lib.hid ⟨hs, hm⟩
  clear hs hm
  unfold fitB
  obtain ⟨Q, hQ⟩ : ∃ Q : Bool, (decide ((c : Int) < mt) && (decide (sz ≤ mb) && decide ((b : Int) ≤ mb - sz))) = Q := ⟨_, rfl⟩
  rw [hQ]
  by_cases k1 : (c : Int) < mt
  · by_cases k2 : sz ≤ mb
    · by_cases k3 : (b : Int) ≤ mb - sz
      · have HQ : Hid (true = Q) := Lib.hid (by rw [← hQ, decide_eq_true k1, decide_eq_true k2, decide_eq_true k3]; rfl)
        clear hQ
        go_enter Try.func25, Try.ntmps25
        go_upto_region 1 with fail
        refine wl <| gz1 (.int .i64 c) <| gzl rfl ⟨g2, 0, none⟩ (.int .i64 mt) (rg_cell (bx_range (cs := [.int .i64 mt]) h2) (j := 0) rfl (by kernel_rfl)) <| gzb (lss_n rfl (c) (mt) (decide_eq_true (k1))) <| gz1 (.bool true) <|
          gzl rfl ⟨g3, 0, none⟩ (.int .i64 sz) (rg_cell (bx_range (cs := [.int .i64 sz]) h3) (j := 0) rfl (by kernel_rfl)) <| gzl rfl ⟨g4, 0, none⟩ (.int .i64 mb) (rg_cell (bx_range (cs := [.int .i64 mb]) h4) (j := 0) rfl (by kernel_rfl)) <|
          gzb (leq_n rfl (sz) (mb) (decide_eq_true (k2))) <| gz3 (.bool true) (.bool true) (.int .i64 b) <| gzl rfl ⟨g4, 0, none⟩ (.int .i64 mb) (rg_cell (bx_range (cs := [.int .i64 mb]) h4) (j := 0) rfl (by kernel_rfl)) <|
          gzl rfl ⟨g3, 0, none⟩ (.int .i64 sz) (rg_cell (bx_range (cs := [.int .i64 sz]) h3) (j := 0) rfl (by kernel_rfl)) <| gzw (.int .i64 (mb - sz)) (sub_w rfl mb sz (by have := HN.out; omega)) <|
          gzb (leq_n rfl (b) ((mb - sz)) (decide_eq_true (k3))) <| gz2 (.bool true) (.bool true) <| wn ?_
        simp only [pu]
        go_wp2_with fail
        go_ret
        exact ⟨congrArg (fun q => Ending.returned (Value.bool q)) HQ.out, rfl⟩
      · have HQ : Hid (false = Q) := Lib.hid (by rw [← hQ, decide_eq_true k1, decide_eq_true k2, decide_eq_false k3]; rfl)
        clear hQ
        go_enter Try.func25, Try.ntmps25
        go_upto_region 1 with fail
        refine wl <| gz1 (.int .i64 c) <| gzl rfl ⟨g2, 0, none⟩ (.int .i64 mt) (rg_cell (bx_range (cs := [.int .i64 mt]) h2) (j := 0) rfl (by kernel_rfl)) <| gzb (lss_n rfl (c) (mt) (decide_eq_true (k1))) <| gz1 (.bool true) <|
          gzl rfl ⟨g3, 0, none⟩ (.int .i64 sz) (rg_cell (bx_range (cs := [.int .i64 sz]) h3) (j := 0) rfl (by kernel_rfl)) <| gzl rfl ⟨g4, 0, none⟩ (.int .i64 mb) (rg_cell (bx_range (cs := [.int .i64 mb]) h4) (j := 0) rfl (by kernel_rfl)) <|
          gzb (leq_n rfl (sz) (mb) (decide_eq_true (k2))) <| gz3 (.bool true) (.bool true) (.int .i64 b) <| gzl rfl ⟨g4, 0, none⟩ (.int .i64 mb) (rg_cell (bx_range (cs := [.int .i64 mb]) h4) (j := 0) rfl (by kernel_rfl)) <|
          gzl rfl ⟨g3, 0, none⟩ (.int .i64 sz) (rg_cell (bx_range (cs := [.int .i64 sz]) h3) (j := 0) rfl (by kernel_rfl)) <| gzw (.int .i64 (mb - sz)) (sub_w rfl mb sz (by have := HN.out; omega)) <|
          gzb (leq_n rfl (b) ((mb - sz)) (decide_eq_false (k3))) <| gz2 (.bool false) (.bool false) <| wn ?_
        simp only [pu]
        go_wp2_with fail
        go_ret
        exact ⟨congrArg (fun q => Ending.returned (Value.bool q)) HQ.out, rfl⟩
    · have HQ : Hid (false = Q) := Lib.hid (by rw [← hQ, decide_eq_true k1, decide_eq_false k2]; rfl)
      clear hQ
      go_enter Try.func25, Try.ntmps25
      go_upto_region 1 with fail
      refine wl <| gz1 (.int .i64 c) <| gzl rfl ⟨g2, 0, none⟩ (.int .i64 mt) (rg_cell (bx_range (cs := [.int .i64 mt]) h2) (j := 0) rfl (by kernel_rfl)) <| gzb (lss_n rfl (c) (mt) (decide_eq_true (k1))) <| gz1 (.bool true) <|
        gzl rfl ⟨g3, 0, none⟩ (.int .i64 sz) (rg_cell (bx_range (cs := [.int .i64 sz]) h3) (j := 0) rfl (by kernel_rfl)) <| gzl rfl ⟨g4, 0, none⟩ (.int .i64 mb) (rg_cell (bx_range (cs := [.int .i64 mb]) h4) (j := 0) rfl (by kernel_rfl)) <|
        gzb (leq_n rfl (sz) (mb) (decide_eq_false (k2))) <| gz6 (.bool false) (.bool false) undef undef undef undef <| gz3 undef (.bool false) (.bool false) <| wn ?_
      simp only [pu]
      go_wp2_with fail
      go_ret
      exact ⟨congrArg (fun q => Ending.returned (Value.bool q)) HQ.out, rfl⟩
  · have HQ : Hid (false = Q) := Lib.hid (by rw [← hQ, decide_eq_false k1]; rfl)
    clear hQ
    go_enter Try.func25, Try.ntmps25
    go_upto_region 1 with fail
    refine wl <| gz1 (.int .i64 c) <| gzl rfl ⟨g2, 0, none⟩ (.int .i64 mt) (rg_cell (bx_range (cs := [.int .i64 mt]) h2) (j := 0) rfl (by kernel_rfl)) <| gzb (lss_n rfl (c) (mt) (decide_eq_false (k1))) <|
      gz6 (.bool false) undef undef undef (.bool false) (.bool false) <| gz6 undef undef undef undef undef (.bool false) <| gz1 (.bool false) <| wn ?_
    simp only [pu]
    go_wp2_with fail
    go_ret
    exact ⟨congrArg (fun q => Ending.returned (Value.bool q)) HQ.out, rfl⟩
end Go.Proofs.Ytgkckblcekbafaa
