/-
 The program's read: contract.
-/
import Derived.Test.YtplfineaomneiaaDoorXP
import Derived.Test.YtplfineaomneiaaDoorXM
import Derived.Test.YtplfineaomneiaaDoorXO
import Derived.Test.YtplfineaomneiaaDoorXT
import Derived.Test.YtplfineaomneiaaDoorRP
import Derived.Test.YtplfineaomneiaaDoorRQ
namespace Go.Proofs.YtplfineaomneiaaDoor
attribute [local irreducible] wpList wpQuiet
open Go.RowKit
set_option maxRecDepth 100000
set_option linter.unusedSimpArgs false
set_option linter.unusedVariables false

theorem setX_prs (c : List Int) (j : Nat) (L : List Int) : setX c j L = (if (prsX j L).2 = 0 then c.set j (prsX j L).1 else c, (prsX j L).2) := by
 unfold setX prsX
 by_cases h1 : j = 8 ∧ L = [45, 49]
 ·rw [if_pos h1, if_pos h1, if_pos rfl, h1.1]
 ·rw [if_neg h1, if_neg h1]
  by_cases h2 : digitsX L = false
  ·rw [if_pos h2, if_pos h2, if_neg (show ¬ (2 : Int) = 0 by decide)]
  ·rw [if_neg h2, if_neg h2]
   by_cases h3 : inR j (dval L) = true
   ·rw [if_pos h3, if_pos h3, if_pos rfl]
   ·rw [if_neg h3, if_neg h3, if_neg (show ¬ (1 : Int) = 0 by decide)]
theorem prs_rng {j : Nat} (hj : j < 12) {L : List Int} (h : (prsX j L).2 = 0) : inR j (prsX j L).1 = true := by
 unfold prsX at h ⊢
 by_cases h1 : j = 8 ∧ L = [45, 49]
 ·rw [if_pos h1, h1.1]; decide
 ·rw [if_neg h1] at h ⊢
  by_cases h2 : digitsX L = false
  ·rw [if_pos h2] at h; exact absurd h (by decide)
  ·rw [if_neg h2] at h ⊢
   by_cases h3 : inR j (dval L) = true
   ·rw [if_pos h3]; exact h3
   ·rw [if_neg h3] at h; exact absurd h (by decide)
theorem prs_set {j : Nat} (hj : j < 12) {v : Int} (h : inR j v = true) : (j = 6 → v = 0 ∨ v = 1) ∧ (j = 9 → 0 ≤ v) ∧ (j ≠ 9 → -9223372036854775808 < v ∧ v < 9223372036854775808) := by
 rw [inR_grP hj, Bool.and_eq_true, decide_eq_true_eq, decide_eq_true_eq] at h
 match j, hj with
 | 0, _ => exact ⟨fun e => absurd e (by decide), fun e => absurd e (by decide), fun e => by have h1 : (1 : Int) ≤ v := h.1; have h2 : v ≤ 512 := h.2; omega⟩
 | 1, _ => exact ⟨fun e => absurd e (by decide), fun e => absurd e (by decide), fun e => by have h1 : (1 : Int) ≤ v := h.1; have h2 : v ≤ 1048576 := h.2; omega⟩
 | 2, _ => exact ⟨fun e => absurd e (by decide), fun e => absurd e (by decide), fun e => by have h1 : (1 : Int) ≤ v := h.1; have h2 : v ≤ 4096 := h.2; omega⟩
 | 3, _ => exact ⟨fun e => absurd e (by decide), fun e => absurd e (by decide), fun e => by have h1 : (0 : Int) ≤ v := h.1; have h2 : v ≤ 1024 := h.2; omega⟩
 | 4, _ => exact ⟨fun e => absurd e (by decide), fun e => absurd e (by decide), fun e => by have h1 : (0 : Int) ≤ v := h.1; have h2 : v ≤ 1073741824 := h.2; omega⟩
 | 5, _ => exact ⟨fun e => absurd e (by decide), fun e => absurd e (by decide), fun e => by have h1 : (0 : Int) ≤ v := h.1; have h2 : v ≤ 1073741824 := h.2; omega⟩
 | 6, _ => exact ⟨fun e => by have h1 : (0 : Int) ≤ v := h.1; have h2 : v ≤ 1 := h.2; omega, fun e => absurd e (by decide), fun e => by have h1 : (0 : Int) ≤ v := h.1; have h2 : v ≤ 1 := h.2; omega⟩
 | 7, _ => exact ⟨fun e => absurd e (by decide), fun e => absurd e (by decide), fun e => by have h1 : (1 : Int) ≤ v := h.1; have h2 : v ≤ 1048576 := h.2; omega⟩
 | 8, _ => exact ⟨fun e => absurd e (by decide), fun e => absurd e (by decide), fun e => by have h1 : (-1 : Int) ≤ v := h.1; have h2 : v ≤ 1125899906842624 := h.2; omega⟩
 | 9, _ => exact ⟨fun e => absurd e (by decide), fun e => h.1, fun e => absurd rfl e⟩
 | 10, _ => exact ⟨fun e => absurd e (by decide), fun e => absurd e (by decide), fun e => by have h1 : (0 : Int) ≤ v := h.1; have h2 : v ≤ 7 := h.2; omega⟩
 | 11, _ => exact ⟨fun e => absurd e (by decide), fun e => absurd e (by decide), fun e => by have h1 : (1 : Int) ≤ v := h.1; have h2 : v ≤ 8 := h.2; omega⟩
/-- What a line says. -/
def lnX (c : List Int) (S : List (List Int)) (l : List Int) : List Int × List (List Int) × Int :=
 match wrd l 0 [] with
 | [] => (c, S, 0)
 | [k, v] => match idxL k keysL 0 with
  | none => (c, S, 10)
  | some j => if S.contains k then (c, S, 8) else if (setX c j v).2 = 0 then ((setX c j v).1, S ++ [k], 0) else (c, S, (setX c j v).2)
 | _ => (c, S, 2)
def memF (S : List (List Int)) : ByteArray → Option Value := fun x => if S.contains (nums x) then some (.bool true) else none
theorem memF_nil : memF [] = fun _ => none := rfl
theorem memF_add (S : List (List Int)) (k : ByteArray) : updF (memF S) k (some (.bool true)) = memF (S ++ [nums k]) := by
 funext x
 unfold updF memF
 by_cases h : x = k
 ·rw [if_pos h, h, if_pos (by simp)]
 ·rw [if_neg h]
  have hn : ¬ nums x = nums k := fun e => h (nums_inj e)
  have e : (S ++ [nums k]).contains (nums x) = S.contains (nums x) := by
   rw [Bool.eq_iff_iff, List.contains_iff_mem, List.contains_iff_mem, List.mem_append, List.mem_singleton]
   exact ⟨fun q => q.resolve_right hn, .inl⟩
  rw [e]
theorem lk_mem (S : List (List Int)) (k : ByteArray) : lkV (memF S k) false = .bool (S.contains (nums k)) := by
 unfold memF
 by_cases h : S.contains (nums k) = true
 ·rw [if_pos h, h]; rfl
 ·rw [if_neg h]
  cases q : S.contains (nums k) with
  | true => exact absurd q h
  | false => rfl
section
variable {c l : List Int} {S : List (List Int)} {k v : List Int} {M : List (List Int)}
theorem ln0 (h : wrd l 0 [] = M) (h0 : M.length = 0) : lnX c S l = (c, S, 0) := by
 unfold lnX
 rw [h, List.eq_nil_of_length_eq_zero h0]
theorem ln2 (h : wrd l 0 [] = M) (h0 : M.length ≠ 0) (h2 : M.length ≠ 2) : lnX c S l = (c, S, 2) := by
 unfold lnX
 rw [h]
 match M, h0, h2 with
 | [], h0, _ => exact absurd rfl h0
 | [x], _, _ => rfl
 | [x, y], _, h2 => exact absurd rfl h2
 | x :: y :: z :: r, _, _ => rfl
theorem ln10 (h : wrd l 0 [] = [k, v]) (hk : idxL k keysL 0 = none) : lnX c S l = (c, S, 10) := by
 unfold lnX
 rw [h]
 simp only [hk]
theorem ln8 (h : wrd l 0 [] = [k, v]) {j : Nat} (hk : idxL k keysL 0 = some j) (hs : S.contains k = true) : lnX c S l = (c, S, 8) := by
 unfold lnX
 rw [h]
 simp only [hk, hs, if_true]
theorem lnE (h : wrd l 0 [] = [k, v]) {j : Nat} (hk : idxL k keysL 0 = some j) (hs : S.contains k = false) (he : ¬ (prsX j v).2 = 0) : lnX c S l = (c, S, (prsX j v).2) := by
 unfold lnX
 rw [h]
 simp only [hk, hs, Bool.false_eq_true, if_false, setX_prs, if_neg he]
theorem lnO (h : wrd l 0 [] = [k, v]) {j : Nat} (hk : idxL k keysL 0 = some j) (hs : S.contains k = false) (he : (prsX j v).2 = 0) : lnX c S l = (c.set j (prsX j v).1, S ++ [k], 0) := by
 unfold lnX
 rw [h]
 simp only [hk, hs, Bool.false_eq_true, if_false, setX_prs, if_pos he]
end
/-- What a reading of a line may change: the configuration and the map. -/
def RdD (g B : Nat) : Nat → Prop := fun k => k = g ∨ k = B
structure RdO (g B kk : Nat) (w : World) (R : List Int × List (List Int) × Int) (e : Ending) (w' : World) : Prop where
 e : e = .returned (.int .i64 R.2.2)
 cf : Bx w' g (cfA R.1) kk
 mp : Mf w' B (memF R.2.1)
 but : ButS (min g B) (RdD g B) w w'
theorem Mf.below {w w' : World} {B : Nat} {f : ByteArray → Option Value} (h : Mf w B f) (hb : Below w.heap.size w w') : Mf w' B f := h.same (hb.block B h.lt)
theorem mf_ne {w : World} {B k t : Nat} {cs : Array Value} {f : ByteArray → Option Value} (h : Mf w B f) (hX : Bx w k cs t) : k ≠ B := fun e => by
 obtain ⟨L, ⟨es, cl, hb, -, -⟩, -, -⟩ := h
 rw [← e] at hb
 have := hX.symm.trans hb
 cases this
theorem ButS.ofG {g B : Nat} {w w' : World} (h : But g w w') : ButS (min g B) (RdD g B) w w' := ⟨h.1.mono (Nat.min_le_left _ _), fun k hk hn => h.2 k hk fun e => hn (.inl e)⟩
theorem ButS.ofB {g B : Nat} {w w' : World} (h : w.grownBy w' (some B)) (hB : B < w.heap.size) : ButS (min g B) (RdD g B) w w' := by
 obtain ⟨h1, h2, h3, h4, h5⟩ := h
 exact ⟨⟨h1, h2, h3, h4, fun k hk => h5 k (by have := Nat.min_le_right g B; omega) (fun e => by have := Option.some.inj e; have := Nat.min_le_right g B; omega)⟩, fun k hk hn => h5 k hk fun e => hn (.inr (Option.some.inj e))⟩
theorem grown_bx {w w' : World} {g B t : Nat} {cs : Array Value} (h : w.grownBy w' (some B)) (hX : Bx w g cs t) (hn : g ≠ B) : Bx w' g cs t := by
 obtain ⟨-, -, -, -, h5⟩ := h
 exact (h5 g hX.lt (fun e => hn (Option.some.inj e))).trans hX
/-- What the region of 'parse' keeps. -/
structure KR (W : World) (D : Array Value) (b11 b12 : Bool) (x : Value) (V : World) : Prop where
 bel : Below W.heap.size W V
 o12 : b12 = true → b11 = true
 bx : b11 = true → ∃ g, x = .pointer (some ⟨g, 0, none⟩) ∧ W.heap.size ≤ g ∧ (b12 = false → Bx V g #[.bool false, .int .u64 0] 62) ∧ (b12 = true → Bx V g D 62)
section
variable {W V V2 : World} {D : Array Value} {b11 b12 : Bool} {x : Value}
theorem KR.start (hb : Below W.heap.size W V) (D : Array Value) (x : Value) : KR W D false false x V.drew := ⟨hb.drew, fun h => by (cases h), fun h => by (cases h)⟩
theorem KR.call (h : KR W D b11 b12 x V) (hb : Below V.heap.size V V2) : KR W D b11 b12 x V2 := ⟨h.bel.trans (hb.mono h.bel.size), h.o12, fun h9 => by
 obtain ⟨g, h1, h2, h3, h4⟩ := h.bx h9
 exact ⟨g, h1, h2, fun q => (h3 q).below (h3 q).lt hb, fun q => (h4 q).below (h4 q).lt hb⟩⟩
theorem KR.n11 (h : KR W D false b12 x V) : b12 = false := by cases b12; rfl; exact absurd (h.o12 rfl) (by decide)
theorem KR.s11 (h : KR W D false false x V) : KR W D true false (.pointer (some ⟨V.heap.size, 0, none⟩)) (V.alloc (.cells #[.bool false, .int .u64 0] 62)) := ⟨h.bel.alloc h.bel.size _, fun q => by (cases q), fun _ => ⟨_, rfl, h.bel.size, fun _ => heap_alloc_last V _, fun q => by (cases q)⟩⟩
theorem KR.s12 {g : Nat} (h : KR W D true false (.pointer (some ⟨g, 0, none⟩)) V) (hge : W.heap.size ≤ g) (hb : But g V V2) (hX : Bx V2 g D 62) : KR W D true true (.pointer (some ⟨g, 0, none⟩)) V2 := ⟨h.bel.trans (hb.1.mono hge), fun _ => rfl, fun _ => ⟨g, rfl, hge, fun q => by (cases q), fun _ => hX⟩⟩
end
theorem p_words2 (s : ByteArray) (hl : s.size ≤ 90000) (hv : runs (nums s) 0 ≠ none) (w : World) (hG : Glob w) : Calls Tryd.prog 48 #[.string s] w fun e w' => ∃ v, e = .returned v ∧ ∃ S, RowS w' w.heap.size v S ∧ S.map nums = wrd (nums s) 0 [] ∧ Below w.heap.size w w' := (p_words s hl hv w hG).mono fun e w' z => by
 obtain ⟨v, S, h1, h2, h3, h4⟩ := z
 exact ⟨v, h1, S, h2, h3, h4⟩
set_option maxRecDepth 100000 in
set_option maxHeartbeats 8000000 in
theorem p_read {c : List Int} (hc : CfOk c) {S : List (List Int)} {gs g B : Nat} (s : ByteArray) (hl : s.size ≤ 9000) (hv : runs (nums s) 0 ≠ none) (w : World) (hG : Glob w) (hS : Bx w gs (stC g).toArray 59) (hX : Bx w g (cfA c) 24) (hM : Mf w B (memF S)) (hne : gs ≠ g) : Calls Tryd.prog 39 #[.slice (some ⟨gs, 0, none⟩) 12 12, .map (some B), .string s] w (RdO g B 24 w (lnX c S (nums s))) := by
 have CWO := p_words2 s (by omega) hv w hG
 have HG : Hid (∀ V, Below w.heap.size w V → Glob V) := Lib.hid fun V h => hG.below h
 have HLN := Lib.hid (nums_len s)
 have hgw := hX.lt
 have hBw := hM.lt
 have hsw := hS.lt
 have hgB := mf_ne hM hX
 have hsB := mf_ne hM hS
 have HNE : Hid (g < w.heap.size ∧ B < w.heap.size ∧ gs < w.heap.size ∧ g ≠ B ∧ gs ≠ B ∧ gs ≠ g) := Lib.hid ⟨hgw, hBw, hsw, hgB, hsB, hne⟩
 have HKEEP : Hid (∀ V, Below w.heap.size w V → Bx V gs (stC g).toArray 59 ∧ Bx V g (cfA c) 24 ∧ Mf V B (memF S)) := Lib.hid fun V h => ⟨hS.below hsw h, hX.below hgw h, hM.below h⟩
 have HEA : Hid (∀ V er, Below w.heap.size w V → lnX c S (nums s) = (c, S, er) → RdO g B 24 w (lnX c S (nums s)) (.returned (.int .i64 er)) V) := Lib.hid fun V er h e => by
  rw [e]
  exact ⟨rfl, hX.below hgw h, hM.below h, ButS.of_below h (by have := Nat.min_le_left g B; omega)⟩
 have HOC := Lib.hid hc
 obtain ⟨L, hL⟩ : ∃ L, nums s = L := ⟨_, rfl⟩
 rw [hL] at CWO HLN HEA ⊢
 have HW8 : Hid (∀ x, x ∈ wrd L 0 [] → x.length ≤ s.size) := Lib.hid fun x hx => by
  have := wrd_len L L.length 0 [] x (by omega) hx
  simp only [List.length_nil] at this
  rw [HLN.out] at this
  omega
 have HLX : Hid (∀ M, wrd L 0 [] = M → (M.length = 0 → lnX c S L = (c, S, 0)) ∧ (M.length ≠ 0 → M.length ≠ 2 → lnX c S L = (c, S, 2))) := Lib.hid fun M h => ⟨fun h0 => ln0 h h0, fun h0 h2 => ln2 h h0 h2⟩
 obtain ⟨RL, hRL⟩ : ∃ RL, lnX c S L = RL := ⟨_, rfl⟩
 have HRL := Lib.hid hRL
 obtain ⟨PO, hPO⟩ : ∃ PO, RdO g B 24 w RL = PO := ⟨_, rfl⟩
 have HPO := Lib.hid hPO
 rw [hRL] at HEA HLX ⊢
 rw [hPO] at HEA ⊢
 have HLS := Lib.hid hl
 clear hL hRL hPO hG hS hX hM hne hgw hBw hsw hgB hsB hc hv
 go_enter Tryd.func39, Tryd.ntmps39
 go_upto_region 1 with fail
 refine wl <| gz1 (.string s) <| gze (fun v w2 => ∃ S0, RowS w2 w.heap.size v S0 ∧ S0.map nums = wrd L 0 [] ∧ Below w.heap.size w w2) CWO (fun vw V1 hq => ?_)
 obtain ⟨S0, hr0, hm0, hb0⟩ := hq
 obtain ⟨aw, cw, hvw, hcs0, -⟩ := RowS.cs hr0
 obtain rfl := hvw
 obtain ⟨nw, hnw⟩ : ∃ n, S0.length = n := ⟨_, rfl⟩
 rw [hnw] at hr0
 simp only [hnw]
 have hbA : Below V1.heap.size V1 (V1.alloc (.cells #[.slice none 0 0] 39)) := (Below.refl _ V1).alloc (Nat.le_refl _) _
 have hXA : Bx (V1.alloc (.cells #[.slice none 0 0] 39)) V1.heap.size #[.slice none 0 0] 39 := heap_alloc_last V1 _
 obtain ⟨V2, hst, hX7, hbt⟩ := st_fld (i := 0) (v := .slice aw nw cw) (ty := 39) #[.slice aw nw cw] hXA (by decide) rfl rfl (by kernel_rfl)
 have hb2 : Below V1.heap.size V1 V2 := hbA.trans (hbt.1)
 have hcs2 := (hcs0.below (hbA)).but hbt (fun x hx => by have h1 := hr0.lt x.block (by rw [hx]; rfl); exact Nat.ne_of_lt h1.2)
 simp only [pu]
 refine run_to rfl (some 7) rfl (.pointer (some ⟨V1.heap.size, 0, none⟩)) (V1.alloc (.cells #[.slice none 0 0] 39)) (by kernel_rfl) ?_
 simp only [pu]
 refine gzs rfl (hst) <| wn ?_
 obtain ⟨g7, hg7⟩ : ∃ g, V1.heap.size = g := ⟨_, rfl⟩
 rw [hg7] at hX7
 simp only [hg7]
 have HB2 : Hid (Below w.heap.size w V2) := Lib.hid (hb0.trans (hb2.mono hb0.size))
 have HG7 : Hid (w.heap.size ≤ g7 ∧ g7 < V2.heap.size) := Lib.hid ⟨by rw [← hg7]; exact hb0.size, hX7.lt⟩
 have HC2 := Lib.hid hcs2
 have HX7 := Lib.hid hX7
 have HMN : Hid (nw = (wrd L 0 []).length) := Lib.hid (by rw [← hm0, List.length_map]; exact hnw.symm)
 have HM0 := Lib.hid hm0
 have HN0 := Lib.hid hnw
 obtain ⟨hq0, hq2⟩ := HLX.out _ rfl
 rw [← HMN.out] at hq0 hq2
 have HQ0 := Lib.hid hq0
 have HQ2 := Lib.hid hq2
 clear hr0 hcs0 hcs2 hb0 hb2 hbA hXA hbt hst hg7 hm0 hnw hX7 hq0 hq2 CWO HLX HMN
 by_cases h0 : nw = 0
 ·skip
  have HE := Lib.hid (HEA.out V2 0 HB2.out (HQ0.out h0))
  go_upto_region 2 with fail
  refine wl <| gzl rfl ⟨g7, 0, none⟩ (.slice aw nw cw) (HX7.out.load (i := 0) rfl (by kernel_rfl)) <| gz1 (.int .i64 nw) <| gzb (eql_nn rfl nw 0 (decide_eq_true h0)) <| wn ?_
  simp only [pu]
  go_upto_region 3 with fail
  refine wl <| gz1 (.int .i64 0) <| wn ?_
  simp only [pu]
  go_wp2_with fail
  exact HE.out
 ·skip
  go_upto_region 2 with fail
  refine wl <| gzl rfl ⟨g7, 0, none⟩ (.slice aw nw cw) (HX7.out.load (i := 0) rfl (by kernel_rfl)) <| gz1 (.int .i64 nw) <| gzb (eql_nn rfl nw 0 (decide_eq_false h0)) <| wn ?_
  simp only [pu]
  by_cases h2 : nw = 2
  ·skip
   subst h2
   obtain ⟨kb, hkb⟩ : ∃ k, S0.getD 0 (⟨#[]⟩ : ByteArray) = k := ⟨_, rfl⟩
   obtain ⟨vb, hvb⟩ : ∃ k, S0.getD 1 (⟨#[]⟩ : ByteArray) = k := ⟨_, rfl⟩
   have htwo := two_of HN0.out
   rw [hkb, hvb] at htwo
   have hw2 : wrd L 0 [] = [nums kb, nums vb] := by rw [← HM0.out, htwo]; rfl
   have hvl : vb.size ≤ 90000 := by
    have h1 := HW8.out (nums vb) (by rw [hw2]; simp)
    rw [nums_len] at h1
    have := HLS.out
    omega
   obtain ⟨bw, ow, hab, -, hc0⟩ := strs_get HC2.out (k := 0) (by rw [HN0.out]; omega)
   obtain ⟨bw2, ow2, hab2, -, hc1⟩ := strs_get HC2.out (k := 1) (by rw [HN0.out]; omega)
   rw [hab] at hab2
   injection hab2 with hab2
   injection hab2 with hab2 hab3
   subst hab2
   subst hab3
   rw [hkb] at hc0
   rw [hvb] at hc1
   have HC0 : Hid (∀ V, Below V2.heap.size V2 V → V.cell? ⟨bw, ow + 0, none⟩ = some (.string kb)) := Lib.hid fun V h => cell_below h hc0
   have HC1 : Hid (∀ V, Below V2.heap.size V2 V → V.cell? ⟨bw, ow + 1, none⟩ = some (.string vb)) := Lib.hid fun V h => cell_below h hc1
   have hbg : bw ≠ g := by
    intro e
    obtain ⟨-, hk2, -⟩ := HKEEP.out V2 HB2.out
    have h1 := hc0
    rw [e] at h1
    have hq : (cfA c)[ow + 0]? = some (.string kb) := by
     have h2 : V2.heap[g]? = some (.cells (cfA c) 24 (0, 0)) := hk2
     simpa [World.cell?, h2] using h1
    have h12 : ow + 0 < 12 := (Array.getElem?_eq_some_iff.1 hq).1
    rw [cf_get h12] at hq
    split at hq
    ·cases hq
    ·split at hq <;> cases hq
   have hbB : bw ≠ B := by
    intro e
    obtain ⟨-, -, Lm, ⟨es, cl, hb, -, -⟩, -, -⟩ := HKEEP.out V2 HB2.out
    have h1 := hc0
    rw [e] at h1
    simp [World.cell?, hb] at h1
   have HBW : Hid (bw < V2.heap.size ∧ bw ≠ g ∧ bw ≠ B) := Lib.hid ⟨World.block_lt_of_cell? V2 _ hc0, hbg, hbB⟩
   clear hbg hbB
   obtain ⟨hk1, -, -⟩ := HKEEP.out V2 HB2.out
   have CIX := p_index (s := kb) hk1 HX7.out HC2.out HN0.out (by omega) hkb
   have HLX2 : Hid ((idxL (nums kb) keysL 0 = none → RL = (c, S, 10)) ∧ (∀ j, idxL (nums kb) keysL 0 = some j → (S.contains (nums kb) = true → RL = (c, S, 8)) ∧ (S.contains (nums kb) = false → ¬ (prsX j (nums vb)).2 = 0 → RL = (c, S, (prsX j (nums vb)).2)) ∧ (S.contains (nums kb) = false → (prsX j (nums vb)).2 = 0 → RL = (c.set j (prsX j (nums vb)).1, S ++ [nums kb], 0)))) := Lib.hid (by
    rw [← HRL.out]
    exact ⟨fun h => ln10 hw2 h, fun j h => ⟨fun h1 => ln8 hw2 h h1, fun h1 h2 => lnE hw2 h h1 h2, fun h1 h2 => lnO hw2 h h1 h2⟩⟩)
   obtain rfl := hab
   have HKN := Lib.hid (fun h => idxI_nat (t := nums kb) (L := keysL) h)
   have HKG := Lib.hid (fun h => idxI_neg (t := nums kb) (L := keysL) h)
   obtain ⟨kv, hkv⟩ : ∃ kv, idxI (nums kb) keysL = kv := ⟨_, rfl⟩
   rw [hkv] at CIX HKN HKG
   clear hkv hkb hvb htwo hw2 hc0 hc1 hk1 HQ0 HQ2 HM0 HC2 h0 HW8
   go_upto_region 4 with fail
   refine wl <| gzl rfl ⟨g7, 0, none⟩ (.slice (some ⟨bw, ow, none⟩) 2 cw) (HX7.out.load (i := 0) rfl (by kernel_rfl)) <| gz1 (.int .i64 2) <| gzb (neq_n rfl 2 2 dF) <| wn ?_
   simp only [pu]
   go_upto_region 6 with fail
   refine wl <| gz2 (.slice (some ⟨gs, 0, none⟩) 12 12) (.func (.func 50) #[] #[.pointer (some ⟨g7, 0, none⟩)]) <| gzc (.int .i64 kv) (fun w' => Below V2.heap.size V2 w') (CIX) (fun V3 hb3 => ?_)
   simp only [pu]
   refine gz1 (.int .i64 kv) <| wn ?_
   simp only [pu]
   have HB3 : Hid (Below w.heap.size w V3) := Lib.hid (HB2.out.trans (hb3.mono HB2.out.size))
   have HV3 := Lib.hid hb3
   have HX73 := Lib.hid (HX7.out.below HX7.out.lt hb3)
   clear hb3 CIX HX7 HB2
   by_cases hk : kv < 0
   ·skip
    have HE := Lib.hid (HEA.out V3 10 HB3.out (HLX2.out.1 (HKG.out hk)))
    go_upto_region 7 with fail
    refine wl <| gz1 (.int .i64 kv) <| gzb (lss_n rfl kv 0 (decide_eq_true hk)) <| wn ?_
    simp only [pu]
    go_upto_region 8 with fail
    refine wl <| gz1 (.int .i64 10) <| wn ?_
    simp only [pu]
    go_wp2_with fail
    exact HE.out
   ·skip
    obtain ⟨j, hj1, hj2, hj3⟩ := HKN.out hk
    have hj : j < 12 := hj3
    subst hj2
    obtain ⟨h8, hE, hO⟩ := HLX2.out.2 j hj1
    have H8 := Lib.hid h8
    have HER := Lib.hid hE
    have HOK := Lib.hid hO
    obtain ⟨hk1, hk2, hk3⟩ := HKEEP.out V3 HB3.out
    have hlk := hk3.look kb false
    rw [lk_mem] at hlk
    have CPA := fun V hV => p_parse (g := g) hj vb hvl V hV
    have HJ := Lib.hid hj
    have HPR : Hid ((prsX j (nums vb)).2 = 0 → (j = 6 → (prsX j (nums vb)).1 = 0 ∨ (prsX j (nums vb)).1 = 1) ∧ (j = 9 → 0 ≤ (prsX j (nums vb)).1) ∧ (j ≠ 9 → -9223372036854775808 < (prsX j (nums vb)).1 ∧ (prsX j (nums vb)).1 < 9223372036854775808)) := Lib.hid fun h => prs_set hj (prs_rng hj h)
    obtain ⟨pv, hpv⟩ : ∃ v, (prsX j (nums vb)).1 = v := ⟨_, rfl⟩
    obtain ⟨er, her⟩ : ∃ v, (prsX j (nums vb)).2 = v := ⟨_, rfl⟩
    rw [hpv, her] at CPA HPR HOK
    rw [her] at HER
    obtain ⟨q, hq⟩ : ∃ q, S.contains (nums kb) = q := ⟨_, rfl⟩
    rw [hq] at H8 HER HOK hlk
    clear hj1 hj3 h8 hE hO HKN HKG HLX2 hpv her hq hk3 hk1 hk2
    go_upto_region 7 with fail
    refine wl <| gz1 (.int .i64 (j : Nat)) <| gzb (lss_n rfl (j : Nat) 0 dF) <| wn ?_
    simp only [pu]
    cases q
    ·skip
     go_upto_region 9 with fail
     refine wl <| gz1 (.map (some B)) <| gzl rfl ⟨g7, 0, none⟩ (.slice (some ⟨bw, ow, none⟩) 2 cw) (HX73.out.load (i := 0) rfl (by kernel_rfl)) <| gzv (.pointer (some ⟨bw, ow + 0, none⟩)) (idx_str bw ow 2 cw 0 (by omega) _ _ _ rfl (by kernel_rfl) (by kernel_rfl)) <|
      gzl rfl ⟨bw, ow + 0, none⟩ (.string kb) (load_cell (HC0.out V3 HV3.out) (by kernel_rfl)) <| gzv (.bool false) (ex_look 75 (.tmp 24) (.tmp 27) false rfl (.map (some B)) (.string kb) (.bool false) (by kernel_rfl) (by kernel_rfl) hlk) <| wn ?_
     simp only [pu]
     have HER2 := Lib.hid (HER.out rfl)
     have HOK2 := Lib.hid (HOK.out rfl)
     obtain ⟨hk1, hk2, hk3⟩ := HKEEP.out V3 HB3.out
     have hls := fun V (h : Below V3.heap.size V3 V) => load_st (hk1.below hk1.lt h) HJ.out
     have hGG := fun V (h : Below V3.heap.size V3 V) => HG.out V (HB3.out.trans (h.mono HB3.out.size))
     obtain ⟨SG, hSG⟩ : ∃ G, sgA g j = G := ⟨_, rfl⟩
     have HSG := Lib.hid hSG
     rw [hSG] at CPA
     simp only [hSG] at hls
     obtain ⟨DD, hDD⟩ : ∃ G, nuA (decide (pv < 0)) (absI pv) = G := ⟨_, rfl⟩
     have HDD := Lib.hid hDD
     have hDs : DD.size = 2 := by rw [← hDD]; rfl
     have hDo : DD.all (·.oneCell') = true := by rw [← hDD]; simp [Value.oneCell']
     have HAD : Hid (∀ V g9, Bx V g9 #[.bool false, .int .u64 0] 62 → ∃ V9, (Instr.storeAt 62 (.pointer (some ⟨g9, 0, none⟩)) (.agg DD)).run Tryd.prog V = .ok () V9 ∧ Bx V9 g9 DD 62 ∧ But g9 V V9) := Lib.hid fun V g9 h => st_all (cs' := DD) h (by rw [hDs]; rfl) hDo (by rw [hDs]; kernel_rfl)
     rw [hDD] at CPA
     clear hSG hDD hDs hDo hlk H8 HER HOK hk1 hk2 hk3
     have h0 := KR.start (Below.refl _ V3) DD undef
     go_upto_region 11 with fail
     refine wp_region_inv (fun listed act9 V => ∃ b0 b1 b2 b3 b4 b5 b6 b7 b8 b9 b10 b11 b12 b13 : Bool, ∃ x9 : Value, listed = #[b0, b1, b2, b3, b4, b5, b6, b7, b8, b9, b10, b11, b12, b13] ∧ act9 = { tmps := #[.slice (some ⟨gs, 0, none⟩) 12 12, .map (some B), .string s, undef, undef, undef, .int .i64 0, .pointer (some ⟨g7, 0, none⟩), .int .i64 (j : Nat), x9, (cond b13 (.int .i64 er) undef), .string s, .slice (some ⟨bw, ow, none⟩) 2 cw, .slice (some ⟨bw, ow, none⟩) 2 cw, .int .i64 2, .bool false, .slice (some ⟨bw, ow, none⟩) 2 cw, .int .i64 2, .bool false, .slice (some ⟨gs, 0, none⟩) 12 12, .func (.func 50) #[] #[.pointer (some ⟨g7, 0, none⟩)], .int .i64 (j : Nat), .int .i64 (j : Nat), .bool false, .map (some B), .slice (some ⟨bw, ow, none⟩) 2 cw, .pointer (some ⟨bw, ow + 0, none⟩), .string kb, .bool false, (cond b8 (.tuple #[.agg DD, .int .i64 er]) undef), (cond b0 (.slice (some ⟨gs, 0, none⟩) 12 12) undef), (cond b1 (.int .i64 (j : Nat)) undef), (cond b2 (.pointer (some ⟨gs, 0 + j * 4, none⟩)) undef), (cond b3 (.agg SG) undef), (cond b4 (.slice (some ⟨bw, ow, none⟩) 2 cw) undef), (cond b5 (.pointer (some ⟨bw, ow + 1, none⟩)) undef), (cond b6 (.string vb) undef), (cond b7 (.tuple #[.agg DD, .int .i64 er]) undef), (cond b9 (.agg DD) undef), (cond b10 (.int .i64 er) undef), undef, undef, undef, undef, undef, undef, undef, undef, undef, undef, undef, undef, undef], defers := [] } ∧ KR V3 DD b11 b12 x9 V) (by kernel_rfl) (by kernel_rfl) ?_ ?_ ?_
     ·exact ⟨false, false, false, false, false, false, false, false, false, false, false, false, false, false, undef, rfl, rfl, h0⟩
     ·intro i9 listed act9 V hi9 hr hJ
      obtain ⟨b0, b1, b2, b3, b4, b5, b6, b7, b8, b9, b10, b11, b12, b13, x9, rfl, rfl, hF⟩ := hJ
      have hi2 : i9 < 14 := hi9
      have hi3 : i9 = 0 ∨ i9 = 1 ∨ i9 = 2 ∨ i9 = 3 ∨ i9 = 4 ∨ i9 = 5 ∨ i9 = 6 ∨ i9 = 7 ∨ i9 = 8 ∨ i9 = 9 ∨ i9 = 10 ∨ i9 = 11 ∨ i9 = 12 ∨ i9 = 13 := by omega
      rcases hi3 with rfl | rfl | rfl | rfl | rfl | rfl | rfl | rfl | rfl | rfl | rfl | rfl | rfl | rfl
      ·obtain rfl : b0 = false := ready_self hr
       refine st_val rfl (by kernel_rfl) (some 30) rfl (.slice (some ⟨gs, 0, none⟩) 12 12) V (by kernel_rfl) ?_
       exact ⟨true, b1, b2, b3, b4, b5, b6, b7, b8, b9, b10, b11, b12, b13, x9, rfl, rfl, hF⟩
      ·obtain rfl : b1 = false := ready_self hr
       refine st_val rfl (by kernel_rfl) (some 31) rfl (.int .i64 (j : Nat)) V (by kernel_rfl) ?_
       exact ⟨b0, true, b2, b3, b4, b5, b6, b7, b8, b9, b10, b11, b12, b13, x9, rfl, rfl, hF⟩
      ·obtain rfl : b2 = false := ready_self hr
       obtain rfl : b0 = true := ready_dep hr 0 (by kernel_rfl)
       obtain rfl : b1 = true := ready_dep hr 1 (by kernel_rfl)
       refine st_val rfl (by kernel_rfl) (some 32) rfl (.pointer (some ⟨gs, 0 + j * 4, none⟩)) V (idx_st gs 0 12 12 j HJ.out _ _ _ rfl (by kernel_rfl) (by kernel_rfl)) ?_
       exact ⟨true, true, true, b3, b4, b5, b6, b7, b8, b9, b10, b11, b12, b13, x9, rfl, rfl, hF⟩
      ·obtain rfl : b3 = false := ready_self hr
       obtain rfl : b2 = true := ready_dep hr 2 (by kernel_rfl)
       refine st_load rfl (by kernel_rfl) (some 33) rfl 59 (.tmp 32) rfl ⟨gs, 0 + j * 4, none⟩ (.agg SG) (by kernel_rfl) (hls V hF.bel) ?_
       exact ⟨b0, b1, true, true, b4, b5, b6, b7, b8, b9, b10, b11, b12, b13, _, rfl, rfl, hF⟩
      ·obtain rfl : b4 = false := ready_self hr
       refine st_load rfl (by kernel_rfl) (some 34) rfl 39 (.tmp 7) rfl ⟨g7, 0, none⟩ (.slice (some ⟨bw, ow, none⟩) 2 cw) (by kernel_rfl) ((HX73.out.below HX73.out.lt hF.bel).load (i := 0) rfl (by kernel_rfl)) ?_
       exact ⟨b0, b1, b2, b3, true, b5, b6, b7, b8, b9, b10, b11, b12, b13, _, rfl, rfl, hF⟩
      ·obtain rfl : b5 = false := ready_self hr
       obtain rfl : b4 = true := ready_dep hr 4 (by kernel_rfl)
       refine st_val rfl (by kernel_rfl) (some 35) rfl (.pointer (some ⟨bw, ow + 1, none⟩)) V (idx_str bw ow 2 cw 1 (by omega) _ _ _ rfl (by kernel_rfl) (by kernel_rfl)) ?_
       exact ⟨b0, b1, b2, b3, true, true, b6, b7, b8, b9, b10, b11, b12, b13, x9, rfl, rfl, hF⟩
      ·obtain rfl : b6 = false := ready_self hr
       obtain rfl : b5 = true := ready_dep hr 5 (by kernel_rfl)
       refine st_load rfl (by kernel_rfl) (some 36) rfl 9 (.tmp 35) rfl ⟨bw, ow + 1, none⟩ (.string vb) (by kernel_rfl) (load_cell (HC1.out V (HV3.out.trans (hF.bel.mono HV3.out.size))) (by kernel_rfl)) ?_
       exact ⟨b0, b1, b2, b3, b4, true, true, b7, b8, b9, b10, b11, b12, b13, _, rfl, rfl, hF⟩
      ·obtain rfl : b7 = false := ready_self hr
       obtain rfl : b3 = true := ready_dep hr 3 (by kernel_rfl)
       obtain rfl : b6 = true := ready_dep hr 6 (by kernel_rfl)
       refine st_call rfl (by kernel_rfl) (some 37) rfl 51 #[.agg SG, .string vb] (by kernel_rfl) ((CPA V (hGG V hF.bel)).mono fun e9 V9 hq9 => ?_)
       obtain ⟨rfl, hb9⟩ := hq9
       refine ⟨_, rfl, ?_⟩
       exact ⟨b0, b1, b2, true, b4, b5, true, true, b8, b9, b10, b11, b12, b13, _, rfl, rfl, hF.call hb9⟩
      ·obtain rfl : b8 = false := ready_self hr
       obtain rfl : b7 = true := ready_dep hr 7 (by kernel_rfl)
       refine st_val rfl (by kernel_rfl) (some 29) rfl (.tuple #[.agg DD, .int .i64 er]) V (by kernel_rfl) ?_
       exact ⟨b0, b1, b2, b3, b4, b5, b6, true, true, b9, b10, b11, b12, b13, x9, rfl, rfl, hF⟩
      ·obtain rfl : b9 = false := ready_self hr
       obtain rfl : b8 = true := ready_dep hr 8 (by kernel_rfl)
       refine st_val rfl (by kernel_rfl) (some 38) rfl (.agg DD) V (by kernel_rfl) ?_
       exact ⟨b0, b1, b2, b3, b4, b5, b6, b7, true, true, b10, b11, b12, b13, x9, rfl, rfl, hF⟩
      ·obtain rfl : b10 = false := ready_self hr
       obtain rfl : b8 = true := ready_dep hr 8 (by kernel_rfl)
       refine st_val rfl (by kernel_rfl) (some 39) rfl (.int .i64 er) V (by kernel_rfl) ?_
       exact ⟨b0, b1, b2, b3, b4, b5, b6, b7, true, b9, true, b11, b12, b13, x9, rfl, rfl, hF⟩
      ·obtain rfl : b11 = false := ready_self hr
       obtain rfl : b12 = false := hF.n11
       refine st_val rfl (by kernel_rfl) (some 9) rfl (.pointer (some ⟨V.heap.size, 0, none⟩)) (V.alloc (.cells #[.bool false, .int .u64 0] 62)) (by kernel_rfl) ?_
       exact ⟨b0, b1, b2, b3, b4, b5, b6, b7, b8, b9, b10, true, false, b13, _, rfl, rfl, hF.s11⟩
      ·obtain rfl : b12 = false := ready_self hr
       obtain rfl : b9 = true := ready_dep hr 9 (by kernel_rfl)
       obtain rfl : b11 = true := ready_dep hr 11 (by kernel_rfl)
       obtain ⟨g9, rfl, hge9, hx9, -⟩ := hF.bx rfl
       obtain ⟨V9, hst9, hx99, hbt9⟩ := HAD.out V g9 (hx9 rfl)
       refine st_storeA rfl (by kernel_rfl) rfl 62 (.tmp 9) (.tmp 38) rfl (.pointer (some ⟨g9, 0, none⟩)) (.agg DD) (by kernel_rfl) (by kernel_rfl) V9 hst9 ?_
       exact ⟨b0, b1, b2, b3, b4, b5, b6, b7, b8, true, b10, true, true, b13, _, rfl, rfl, hF.s12 hge9 hbt9 hx99⟩
      ·obtain rfl : b13 = false := ready_self hr
       obtain rfl : b10 = true := ready_dep hr 10 (by kernel_rfl)
       refine st_val rfl (by kernel_rfl) (some 10) rfl (.int .i64 er) V (by kernel_rfl) ?_
       exact ⟨b0, b1, b2, b3, b4, b5, b6, b7, b8, b9, true, b11, b12, true, x9, rfl, rfl, hF⟩
     ·intro act9 V hJ
      obtain ⟨b0, b1, b2, b3, b4, b5, b6, b7, b8, b9, b10, b11, b12, b13, x9, he, rfl, hF⟩ := hJ
      have he : (#[true, true, true, true, true, true, true, true, true, true, true, true, true, true] : Array Bool) = #[b0, b1, b2, b3, b4, b5, b6, b7, b8, b9, b10, b11, b12, b13] := he
      simp only [Array.mk.injEq, List.cons.injEq, and_true] at he
      obtain ⟨rfl, rfl, rfl, rfl, rfl, rfl, rfl, rfl, rfl, rfl, rfl, rfl, rfl, rfl⟩ := he
      simp only [cond_true]
      have hb4 := hF.bel
      obtain ⟨g9, rfl, hge9, -, hx9⟩ := hF.bx rfl
      have hX9 := hx9 rfl
      have HB4 : Hid (Below w.heap.size w V) := Lib.hid (HB3.out.trans (hb4.mono HB3.out.size))
      have HV4 : Hid (Below V2.heap.size V2 V) := Lib.hid (HV3.out.trans (hb4.mono HV3.out.size))
      have HX74 := Lib.hid (HX73.out.below HX73.out.lt hb4)
      clear hF h0 hb4 hx9 hls hGG CPA HAD HX73 HV3 HB3
      by_cases her : er = 0
      ·skip
       subst her
       have hO := HOK2.out rfl
       obtain ⟨hk1, hk2, hk3⟩ := HKEEP.out V HB4.out
       have hls := fun U (h : Below V.heap.size V U) => load_st (hk1.below hk1.lt h) HJ.out
       have hln := fun U (h : Below V.heap.size V U) => (by
        have h1 := hX9.below hX9.lt h
        rw [← HDD.out] at h1
        have h2 := load_nu h1
        rw [HDD.out] at h2
        exact h2 : (Instr.loadAt 62 (.pointer (some ⟨g9, 0, none⟩))).run Tryd.prog U = .ok (.agg DD) U)
       have hcs := fun U (h : Below V.heap.size V U) => p_set HOC.out j HJ.out pv (HPR.out rfl) U (hk2.below hk2.lt h)
       simp only [HDD.out, HSG.out] at hcs
       simp only [HSG.out] at hls
       go_upto_region 12 with fail
       refine wl <| gz1 (.int .i64 0) <| gzb (neq_e rfl 0 0 dF) <| wn ?_
       simp only [pu]
       go_upto_region 14 with fail
       refine wp_region_class_tail (C := fun U => Below V.heap.size V U) 5 (by kernel_rfl) (by kernel_rfl) ((Below.refl _ V).drew) ?_
       simp only [List.take_succ_cons, List.take_zero, List.drop_succ_cons, List.drop_zero]
       refine gy (.slice (some ⟨gs, 0, none⟩) 12 12) <| gy (.int .i64 (j : Nat)) <| gyv (.pointer (some ⟨gs, 0 + j * 4, none⟩)) (fun U hU => idx_st gs 0 12 12 j HJ.out _ _ _ rfl (by kernel_rfl) (by kernel_rfl)) <| gyl rfl ⟨gs, 0 + j * 4, none⟩ (.agg SG) (fun U hU => hls U hU) <|
         gyl rfl ⟨g9, 0, none⟩ (.agg DD) (fun U hU => hln U hU) ?_
       simp only [pu]
       apply wpQuiet_nil
       intro V5 hV5
       refine gzc (.tuple #[]) _ (hcs V5 hV5) (fun V6 hV6 => ?_)
       simp only [pu]
       apply wpList_nil
       obtain ⟨hx6, hbt6⟩ := hV6
       have hk35 := hk3.below hV5
       have hX75 := HX74.out.below HX74.out.lt hV5
       have hM6 := hk35.same (hbt6.2 B hk35.lt (fun e => HNE.out.2.2.2.1 e.symm))
       have hX76 := hX75.but hbt6 (by have := HG7.out; have := HNE.out; omega)
       have hc06 : V6.cell? ⟨bw, ow + 0, none⟩ = some (.string kb) := by
        have h1 := HC0.out V5 (HV4.out.trans (hV5.mono HV4.out.size))
        rw [World.cell?_of_block (hbt6.2 bw (World.block_lt_of_cell? V5 _ h1) HBW.out.2.1)]
        exact h1
       have hbS6 : ButS (min g B) (RdD g B) w V6 := (ButS.of_below (HB4.out.trans (hV5.mono HB4.out.size)) (by have := HNE.out; have := Nat.min_le_left g B; omega)).trans' (ButS.ofG hbt6)
       obtain ⟨V7, hup, hM7, -, hgr7⟩ := hM6.put kb (.bool true)
       rw [memF_add] at hM7
       have hx7 : Bx V7 g (cfA (c.set j pv)) 24 := grown_bx hgr7 hx6 HNE.out.2.2.2.1
       have HE := Lib.hid (show PO (.returned (.int .i64 0)) V7 by
        rw [← HPO.out, hO]
        exact ⟨rfl, hx7, hM7, hbS6.trans' (ButS.ofB hgr7 hM6.lt)⟩)
       clear hx6 hbt6 hk35 hX75 hM6 hbS6 hM7 hgr7 hx7 hO hcs hls hln hk1 hk2 hk3 hV5 hX9
       go_upto_region 15 with fail
       refine wl <| gz1 (.map (some B)) <| gzl rfl ⟨g7, 0, none⟩ (.slice (some ⟨bw, ow, none⟩) 2 cw) (hX76.load (i := 0) rfl (by kernel_rfl)) <| gzv (.pointer (some ⟨bw, ow + 0, none⟩)) (idx_str bw ow 2 cw 0 (by omega) _ _ _ rfl (by kernel_rfl) (by kernel_rfl)) <|
        gzl rfl ⟨bw, ow + 0, none⟩ (.string kb) (load_cell hc06 (by kernel_rfl)) ?_
       simp only [pu]
       refine gw_skip (by kernel_rfl) rfl V7 (ex_put 75 (.tmp 49) (.tmp 52) (.const (.bool true)) rfl (.map (some B)) (.string kb) (.bool true) (by kernel_rfl) (by kernel_rfl) (by kernel_rfl) hup) ?_
       apply wpList_nil
       clear hup hX76 hc06
       go_upto_region 16 with fail
       refine wl <| gz1 (.int .i64 0) <| wn ?_
       simp only [pu]
       go_wp2_with fail
       exact HE.out
      ·skip
       have HE := Lib.hid (HEA.out V er HB4.out (HER2.out her))
       go_upto_region 12 with fail
       refine wl <| gz1 (.int .i64 er) <| gzb (neq_e rfl er 0 (decide_eq_true her)) <| wn ?_
       simp only [pu]
       clear hX9
       go_upto_region 13 with fail
       refine wl <| gz2 (.int .i64 er) (.int .i64 er) <| wn ?_
       simp only [pu]
       go_wp2_with fail
       exact HE.out
    ·skip
     go_upto_region 9 with fail
     refine wl <| gz1 (.map (some B)) <| gzl rfl ⟨g7, 0, none⟩ (.slice (some ⟨bw, ow, none⟩) 2 cw) (HX73.out.load (i := 0) rfl (by kernel_rfl)) <| gzv (.pointer (some ⟨bw, ow + 0, none⟩)) (idx_str bw ow 2 cw 0 (by omega) _ _ _ rfl (by kernel_rfl) (by kernel_rfl)) <|
      gzl rfl ⟨bw, ow + 0, none⟩ (.string kb) (load_cell (HC0.out V3 HV3.out) (by kernel_rfl)) <| gzv (.bool true) (ex_look 75 (.tmp 24) (.tmp 27) false rfl (.map (some B)) (.string kb) (.bool true) (by kernel_rfl) (by kernel_rfl) hlk) <| wn ?_
     simp only [pu]
     have HE := Lib.hid (HEA.out V3 8 HB3.out (H8.out rfl))
     clear hlk CPA
     go_upto_region 10 with fail
     refine wl <| gz1 (.int .i64 8) <| wn ?_
     simp only [pu]
     go_wp2_with fail
     exact HE.out
  ·skip
   have HE := Lib.hid (HEA.out V2 2 HB2.out (HQ2.out h0 h2))
   go_upto_region 4 with fail
   refine wl <| gzl rfl ⟨g7, 0, none⟩ (.slice aw nw cw) (HX7.out.load (i := 0) rfl (by kernel_rfl)) <| gz1 (.int .i64 nw) <| gzb (neq_n rfl (nw : Nat) 2 dT) <| wn ?_
   simp only [pu]
   go_upto_region 5 with fail
   refine wl <| gz1 (.int .i64 2) <| wn ?_
   simp only [pu]
   go_wp2_with fail
   exact HE.out
end Go.Proofs.YtplfineaomneiaaDoor
