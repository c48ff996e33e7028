/-
 The program's Add, Remove, New, Len: contracts.
-/
import Derived.Test.YtjononjpoeobcaaPC
namespace Go.Proofs.Ytjononjpoeobcaa
attribute [local irreducible] wpList wpQuiet
open Go.RowKit
set_option maxRecDepth 100000
set_option linter.unusedSimpArgs false
set_option linter.unusedVariables false

def optV (E : List Eo) (v : Value) : Option Value := if E = [] then none else some v
section
variable {w w' : World} {g B : Nat} {f : ByteArray → Option Value} {m : List Rw}
theorem buts_grown {Q : Nat → Prop} {r : Option Nat} (h : w.grownBy w' r) (hQ : ∀ j, r = some j → Q j) : ButS 0 Q w w' := ⟨⟨h.1, h.2, h.3, h.4, fun k hk => absurd hk (Nat.not_lt_zero k)⟩, fun k hk hn => h.5 k hk fun e => hn (hQ k e.symm)⟩
theorem buts_but {Q : Nat → Prop} (h : But g w w') (hQ : Q g) : ButS 0 Q w w' := ⟨h.1.mono (Nat.zero_le _), fun k hk hn => h.2 k hk fun e => hn (e ▸ hQ)⟩
theorem buts_below {Q : Nat → Prop} (h : Below w.heap.size w w') : ButS 0 Q w w' := ButS.of_below h (Nat.zero_le _)
theorem buts_up {Q S : Nat → Prop} {B0 : Nat} (h : ButS 0 Q w w') (hQ : ∀ j, Q j → S j) (hB : ∀ j, S j → B0 ≤ j) (hw : B0 ≤ w.heap.size) : ButS B0 S w w' := by
 obtain ⟨⟨h1, h2, h3, h4, -⟩, h6⟩ := h
 exact ⟨⟨h1, h2, h3, h4, fun k hk => h6 k (by omega) fun q => by have := hB k (hQ k q); omega⟩, fun k hk hn => h6 k hk fun q => hn (hQ k q)⟩
theorem nil_own {v : Value} {k : Nat} (h : v = .slice none 0 0) : v.ownBlock ≠ some k := fun e => by rw [h] at e; cases e
theorem Ri.upd (h : Ri w g B f m) {m2 : List Rw} {n : ByteArray} {v v' : Value} {W : World} (hlk : f n = some v ∨ v = .slice none 0 0) (hX : Bx W g #[.map (some B), .int .i64 m2.length] 62) (hM : Mf W B (updF f n (optV (lstE m2 n) v'))) (hrow : Rowen W 0 v' (lstE m2 n)) (hoth : ∀ n', n' ≠ n → lstE m2 n' = lstE m n')
  (hat : v'.ownBlock = v.ownBlock ∨ ∃ k, w.heap.size ≤ k ∧ v'.ownBlock = some k) (hch : ButS 0 (fun j => j = g ∨ j = B ∨ v.ownBlock = some j) w W) {S : Nat → Prop} (hS : S = SpI g B f) {B0 : Nat} (hB : ∀ k, S k → B0 ≤ k) (hw : B0 ≤ w.heap.size) : UpdI g B0 S m2 w W := by
 subst hS
 have hvS : ∀ k, v.ownBlock = some k → SpI g B f k := fun k hk => hlk.elim (fun h1 => .inr (.inr ⟨n, v, h1, hk⟩)) fun h1 => absurd hk (nil_own h1)
 have fN : updF f n (optV (lstE m2 n) v') n = optV (lstE m2 n) v' := if_pos rfl
 have fO : ∀ n', n' ≠ n → updF f n (optV (lstE m2 n) v') n' = f n' := fun n' hn => if_neg hn
 have fV : ∀ u, updF f n (optV (lstE m2 n) v') n = some u → u = v' := fun u hu => by
  rw [fN] at hu
  unfold optV at hu
  split at hu
  ·cases hu
  ·cases hu; rfl
 refine ⟨SpI g B (updF f n (optV (lstE m2 n) v')), ⟨B, _, ⟨hX, hM, fun n' hn => ?_, fun n' hn => ?_, fun a b u u2 k ha hb hk hk2 => ?_⟩, rfl⟩, fun k hk => ?_, buts_up hch (fun j hj => ?_) hB hw⟩
 ·by_cases e : n' = n
  ·subst e
   rw [fN, hn]; rfl
  ·rw [fO n' e]
   exact h.no n' (by rw [← hoth n' e]; exact hn)
 ·by_cases e : n' = n
  ·subst e
   exact ⟨v', by rw [fN]; exact if_neg hn, hrow⟩
  ·rw [hoth n' e] at hn ⊢
   obtain ⟨u, hu, hru⟩ := h.ye n' hn
   refine ⟨u, by rw [fO n' e]; exact hu, row_same hru fun k hk => hch.2 k (hru.lt k hk).2 fun q => ?_⟩
   rcases q with rfl | rfl | q
   ·exact h.ng hu hk
   ·exact h.nB hu hk
   ·exact hlk.elim (fun h1 => e (h.ap _ _ _ _ _ hu h1 hk q)) fun h1 => nil_own h1 q
 ·have key : ∀ c x, c ≠ n → f c = some x → x.ownBlock = some k → v'.ownBlock = some k → False := fun c x hc hx h1 h2 => by
   rcases hat with h3 | ⟨j, h3, h4⟩
   ·rw [h2] at h3
    exact hlk.elim (fun h5 => hc (h.ap _ _ _ _ _ hx h5 h1 h3.symm)) fun h5 => nil_own h5 h3.symm
   ·rw [h2] at h4
    cases h4
    have := ((h.row hx).2.lt k h1).2
    omega
  by_cases ea : a = n <;> by_cases eb : b = n
  ·rw [ea, eb]
  ·subst ea
   obtain rfl := fV u ha
   rw [fO b eb] at hb
   exact (key b u2 eb hb hk2 hk).elim
  ·subst eb
   obtain rfl := fV u2 hb
   rw [fO a ea] at ha
   exact (key a u ea ha hk hk2).elim
  ·rw [fO a ea] at ha
   rw [fO b eb] at hb
   exact h.ap _ _ _ _ _ ha hb hk hk2
 ·rcases hk with rfl | rfl | ⟨n', u, h1, h2⟩
  ·exact .inl (.inl rfl)
  ·exact .inl (.inr (.inl rfl))
  ·by_cases e : n' = n
   ·subst e
    obtain rfl := fV u h1
    rcases hat with h3 | ⟨j, h3, h4⟩
    ·rw [h2] at h3
     exact .inl (hvS k h3.symm)
    ·rw [h2] at h4
     cases h4
     exact .inr h3
   ·rw [fO n' e] at h1
    exact .inl (.inr (.inr ⟨n', u, h1, h2⟩))
 ·rcases hj with rfl | rfl | hj
  ·exact .inl rfl
  ·exact .inr (.inl rfl)
  ·exact hvS j hj
theorem q_put {ln : Int} (hX : Bx w g #[.map (some B), .int .i64 ln] 62) (hM : Mf w B f) (s : ByteArray) (hs : s.size ≤ 1000000) {v : Value} {E : List Eo} (hr : Rowen w 0 v E) : Calls Try.prog 33 #[.pointer (some ⟨g, 0, none⟩), .string s, v] w fun e w' => e = .returned (.tuple #[]) ∧ Mf w' B (updF f s (optV E v)) ∧ w.grownBy w' (some B) := by
 obtain ⟨a, c, rfl, -, -⟩ := hr.cs
 by_cases he : E = []
 ·subst he
  exact put_no hX hM s hs a 0 c rfl
 ·have : optV E (.slice a E.length c) = some (.slice a E.length c) := if_neg he
  rw [this]
  exact put_yes hX hM s hs a E.length c (by rw [Ne, List.length_eq_zero_iff]; exact he)
end
set_option maxRecDepth 100000 in
set_option maxHeartbeats 8000000 in
theorem q_new (w : World) : Calls Try.prog 21 #[] w fun e w' => ∃ g S, e = .returned (.pointer (some ⟨g, 0, none⟩)) ∧ RepI w' g S [] ∧ (∀ k, S k → w.heap.size ≤ k) ∧ Below w.heap.size w w' := by
 obtain ⟨W1, hW1⟩ : ∃ W, w.alloc (.map #[] 0) = W := ⟨_, rfl⟩
 obtain ⟨W2, hW2⟩ : ∃ W, W1.alloc (.cells #[.map (some w.heap.size), .int .i64 0] 62) = W := ⟨_, rfl⟩
 have hb1 : Below w.heap.size w W1 := by rw [← hW1]; exact (Below.refl _ w).alloc (Nat.le_refl _) _
 have hb2 : Below W1.heap.size W1 W2 := by rw [← hW2]; exact (Below.refl _ W1).alloc (Nat.le_refl _) _
 have hM1 : Mf W1 w.heap.size (fun _ => none) := by rw [← hW1]; exact Mf.new w
 have hM2 : Mf W2 w.heap.size (fun _ => none) := hM1.same (hb2.block _ hM1.lt)
 have hX : Bx W2 W1.heap.size #[.map (some w.heap.size), .int .i64 0] 62 := by rw [← hW2]; exact heap_alloc_last W1 _
 have hrep : RepI W2 W1.heap.size (SpI W1.heap.size w.heap.size (fun _ => none)) [] := ⟨_, _, ⟨hX, hM2, fun _ _ => rfl, fun n h => absurd rfl h, fun n n' v v' k h => by cases h⟩, rfl⟩
 have hsub : ∀ k, SpI W1.heap.size w.heap.size (fun _ => none) k → w.heap.size ≤ k := fun k hk => by
  rcases hk with rfl | rfl | ⟨n, v, h, -⟩
  ·exact hb1.size
  ·exact Nat.le_refl _
  ·cases h
 have HE := Lib.hid (And.intro hrep (And.intro hsub (hb1.trans (hb2.mono hb1.size))))
 clear hrep hsub
 clear hb1 hb2 hM1 hM2 hX
 go_enter Try.func21, Try.ntmps21
 go_upto_region 1 with fail
 apply wp_region_lit
 refine gw_new (by kernel_rfl) (some 1) rfl (.map (some w.heap.size)) W1 (by rw [← hW1]; exact ex_new 60 rfl) ?_
 simp only [pu]
 refine gz1 (.agg #[.map (some w.heap.size), .int .i64 0]) ?_
 simp only [pu]
 refine run_to rfl (some 3) rfl (.pointer (some ⟨W1.heap.size, 0, none⟩)) W2 (by rw [← hW2]; kernel_rfl) ?_
 simp only [pu]
 refine gz1 (.pointer (some ⟨W1.heap.size, 0, none⟩)) <| wn ?_
 simp only [pu]
 go_wp2_with fail
 go_ret
 exact ⟨W1.heap.size, rfl, _, HE.out⟩
set_option maxRecDepth 100000 in
set_option maxHeartbeats 8000000 in
theorem q_len {w : World} {g : Nat} {S : Nat → Prop} {m : List Rw} (h : RepI w g S m) : Calls Try.prog 10 #[.pointer (some ⟨g, 0, none⟩)] w fun e w' => e = .returned (.int .i64 m.length) ∧ w = w' := by
 obtain ⟨B, f, h, -⟩ := h
 have hX := h.bx
 clear h
 go_enter Try.func10, Try.ntmps10
 go_upto_region 1 with fail
 refine wl <| gz2 (.pointer (some ⟨g, 0, none⟩)) (.bool false) <| wn ?_
 simp only [pu]
 go_upto_region 3 with fail
 refine wl <| gz3 (.pointer (some ⟨g, 0, none⟩)) (.pointer (some ⟨g, 0, none⟩)) (.pointer (some ⟨g, 1, none⟩)) <| gzl rfl ⟨g, 1, none⟩ (.int .i64 m.length) (hX.load (i := 1) rfl (by kernel_rfl)) <| gz1 (.int .i64 m.length) <| wn ?_
 simp only [pu]
 clear hX
 go_wp2_with fail
 go_ret
 exact ⟨rfl, rfl⟩
set_option maxRecDepth 100000 in
set_option maxHeartbeats 8000000 in
theorem q_len0 (w : World) : Calls Try.prog 10 #[.pointer none] w fun e w' => e = .returned (.int .i64 0) ∧ w = w' := by
 go_enter Try.func10, Try.ntmps10
 go_upto_region 1 with fail
 refine wl <| gz2 (.pointer none) (.bool true) <| wn ?_
 simp only [pu]
 go_upto_region 2 with fail
 refine wl <| gz1 (.int .i64 0) <| wn ?_
 simp only [pu]
 go_wp2_with fail
 go_ret
 exact ⟨rfl, rfl⟩
set_option maxRecDepth 100000 in
set_option maxHeartbeats 8000000 in
theorem add_old {w : World} {g B : Nat} {f : ByteArray → Option Value} {m : List Rw} (h : Ri w g B f m) (hm : Srt m) (hl : m.length ≤ 1000) (k : Ky) (id : Int) (hh : hasR m k = true) : Calls Try.prog 20 #[.pointer (some ⟨g, 0, none⟩), .string k.1, .int .u64 k.2, .int .i64 id] w fun e w' => e = .returned (.bool false) ∧ Below w.heap.size w w' := by
 have hX := h.bx
 have HLK := Lib.hid (h.mp.look k.1 false)
 obtain ⟨v, hv, hrow, hor⟩ := h.look k.1
 rw [hv] at HLK
 have hEl : (lstE m k.1).length ≤ 1000 := Nat.le_trans (lst_len m k.1) hl
 have CP := q_place' hrow (lst_srt hm k.1) (by omega) k.2
 rw [hasE_is k, hh] at CP
 generalize cntE (lstE m k.1) k.2 = ct at *
 clear h hm hl hh hv hrow hor hEl
 go_enter Try.func20, Try.ntmps20
 go_upto_region 1 with fail
 refine wl <| gz2 (.pointer (some ⟨g, 0, none⟩)) (.bool false) <| wn ?_
 simp only [pu]
 go_upto_region 3 with fail
 refine wl <| gz3 (.pointer (some ⟨g, 0, none⟩)) (.pointer (some ⟨g, 0, none⟩)) (.pointer (some ⟨g, 0, none⟩)) <| gzl rfl ⟨g, 0, none⟩ (.map (some B)) (hX.load (i := 0) rfl (by kernel_rfl)) <| gz1 (.string k.1) <|
  gzv (v) (ex_look 60 (.tmp 17) (.tmp 18) false rfl (.map (some B)) (.string k.1) v (by kernel_rfl) (by kernel_rfl) HLK.out) <| gz1 (v) <| wn ?_
 simp only [pu]
 clear hX HLK
 go_upto_region 4 with fail
 refine wl <| gz2 (v) (.int .u64 k.2) <| gzc (.tuple #[.int .i64 ct, .bool true]) (fun w' => Below w.heap.size w w') (CP) (fun W1 hW1 => ?_)
 have HB := Lib.hid hW1
 simp only [pu]
 refine gz5 (.tuple #[.int .i64 ct, .bool true]) (.int .i64 ct) (.bool true) (.int .i64 ct) (.bool true) <| wn ?_
 simp only [pu]
 clear CP hW1
 go_upto_region 5 with fail
 refine wl <| gz1 (.bool true) <| wn ?_
 simp only [pu]
 go_upto_region 6 with fail
 refine wl <| gz1 (.bool false) <| wn ?_
 simp only [pu]
 go_wp2_with fail
 go_ret
 exact ⟨rfl, HB.out⟩
set_option maxRecDepth 100000 in
set_option maxHeartbeats 8000000 in
theorem add_new {w : World} {g B : Nat} {f : ByteArray → Option Value} {m : List Rw} (h : Ri w g B f m) (hm : Srt m) (hl : m.length ≤ 1000) (k : Ky) (hk : k.1.size ≤ 1000000) (id : Int) (hh : hasR m k = false) {S : Nat → Prop} (hS : S = SpI g B f) {B0 : Nat} (hB : ∀ j, S j → B0 ≤ j) (hw : B0 ≤ w.heap.size) : Calls Try.prog 20 #[.pointer (some ⟨g, 0, none⟩), .string k.1, .int .u64 k.2, .int .i64 id] w fun e w' => e = .returned (.bool true) ∧ UpdI g B0 S (addR m k id) w w' := by
 have hX := h.bx
 have HLK := Lib.hid (h.mp.look k.1 false)
 obtain ⟨v, hv, hrow, hor⟩ := h.look k.1
 rw [hv] at HLK
 have hEl : (lstE m k.1).length ≤ 1000 := Nat.le_trans (lst_len m k.1) hl
 have CP := q_place' hrow (lst_srt hm k.1) (by omega) k.2
 rw [hasE_is k, hh] at CP
 have hAD := add_yes hm hh id
 have hvg : v.ownBlock ≠ some g := fun e => hor.elim (fun h1 => h.ng h1 e) fun h1 => nil_own h1 e
 have hvB : v.ownBlock ≠ some B := fun e => hor.elim (fun h1 => h.nB h1 e) fun h1 => nil_own h1 e
 have HVB := Lib.hid hvB
 have HVG := Lib.hid hvg
 have hct := cnt_le (lstE m k.1) k.2
 have HUP : Hid (∀ W v', Bx W g #[.map (some B), .int .i64 (m.length + 1 : Nat)] 62 → Mf W B (updF f k.1 (optV (lstE (addR m k id) k.1) v')) → Rowen W 0 v' (lstE (addR m k id) k.1) → (v'.ownBlock = v.ownBlock ∨ ∃ j, w.heap.size ≤ j ∧ v'.ownBlock = some j) → ButS 0 (fun j => j = g ∨ j = B ∨ v.ownBlock = some j) w W → UpdI g B0 S (addR m k id) w W) := Lib.hid fun W v' h1 h2 h3 h4 h5 => h.upd hor (by rw [hAD.len]; exact h1) h2 h3 hAD.oth h4 h5 hS hB hw
 have hown := hAD.own
 generalize cntE (lstE m k.1) k.2 = ct at *
 obtain ⟨E, hE⟩ : ∃ E, lstE m k.1 = E := ⟨_, rfl⟩
 obtain ⟨E2, hE2⟩ : ∃ E, lstE (addR m k id) k.1 = E := ⟨_, rfl⟩
 rw [hE, hE2] at hown
 rw [hE] at hrow hEl hct
 rw [hE2] at HUP
 generalize addR m k id = m2 at *
 have HM := Lib.hid h.mp
 have HOW := Lib.hid hown.symm
 have HLN : Hid (m.length ≤ 1000) := Lib.hid hl
 obtain ⟨ln, hln⟩ : ∃ ln, m.length = ln := ⟨_, rfl⟩
 rw [hln] at hX HUP HLN
 clear h hm hl hh hv hor hAD hvg hvB hE hE2 hown hln hB hw hS
 go_enter Try.func20, Try.ntmps20
 go_upto_region 1 with fail
 refine wl <| gz2 (.pointer (some ⟨g, 0, none⟩)) (.bool false) <| wn ?_
 simp only [pu]
 go_upto_region 3 with fail
 refine wl <| gz3 (.pointer (some ⟨g, 0, none⟩)) (.pointer (some ⟨g, 0, none⟩)) (.pointer (some ⟨g, 0, none⟩)) <| gzl rfl ⟨g, 0, none⟩ (.map (some B)) (hX.load (i := 0) rfl (by kernel_rfl)) <| gz1 (.string k.1) <|
  gzv (v) (ex_look 60 (.tmp 17) (.tmp 18) false rfl (.map (some B)) (.string k.1) v (by kernel_rfl) (by kernel_rfl) HLK.out) <| gz1 (v) <| wn ?_
 simp only [pu]
 clear HLK
 go_upto_region 4 with fail
 refine wl <| gz2 (v) (.int .u64 k.2) <| gzc (.tuple #[.int .i64 ct, .bool false]) (fun w' => Below w.heap.size w w') (CP) (fun W1 hW1 => ?_)
 simp only [pu]
 refine gz5 (.tuple #[.int .i64 ct, .bool false]) (.int .i64 ct) (.bool false) (.int .i64 ct) (.bool false) <| wn ?_
 simp only [pu]
 clear CP
 go_upto_region 5 with fail
 refine wl <| gz1 (.bool false) <| wn ?_
 simp only [pu]
 have hX1 := hX.below hX.lt hW1
 have hM1 := HM.out.same (hW1.block B HM.out.lt)
 have hr1 : Rowen W1 0 v E := hrow.below hW1
 have hne := hr1.ne
 obtain ⟨W2, hW2⟩ : ∃ W, W1.alloc (.cells (enA (k.2, id)) 73) = W := ⟨_, rfl⟩
 have hb2 : Below W1.heap.size W1 W2 := by rw [← hW2]; exact (Below.refl _ W1).alloc (Nat.le_refl _) _
 have hq : Bx W2 W1.heap.size (enA (k.2, id)) 73 := by rw [← hW2]; exact heap_alloc_last W1 _
 have hbd : (Instr.buildSlice 67 1 #[(0, .agg (enA (k.2, id)))]).run Try.prog W1 = .ok (.slice (some ⟨W1.heap.size, 0, none⟩) 1 1) W2 := by rw [← hW2]; exact build_en (k.2, id) W1
 have CI := q_ins (hr1.below hb2) hct (by omega) (k.2, id) hq hne
 rw [HOW.out] at CI
 have hX2 := hX1.below hX1.lt hb2
 have hM2 := hM1.same (hb2.block B hM1.lt)
 have HC2 : Hid (ButS 0 (fun j => j = g ∨ j = B ∨ v.ownBlock = some j) w W2) := Lib.hid ((buts_below hW1).trans' (buts_below hb2))
 have HSZ : Hid (w.heap.size ≤ W2.heap.size) := Lib.hid (Nat.le_trans hW1.size hb2.size)
 obtain ⟨gq, hgq⟩ : ∃ j, W1.heap.size = j := ⟨_, rfl⟩
 rw [hgq] at hbd CI
 clear hX hrow hr1 hne hb2 hq hX1 hM1 hW1 hW2 HM HOW hgq hEl hct
 go_upto_region 7 with fail
 refine wl <| gz6 (.pointer (some ⟨g, 0, none⟩)) (.string k.1) (v) (.int .i64 ct) (.int .u64 k.2) (.int .i64 id) <| gz1 (.agg #[.int .u64 k.2, .int .i64 id]) ?_
 simp only [pu]
 refine gw_build (by kernel_rfl) (some 34) rfl 67 1 #[(0, .tmp 33)] rfl #[(0, .agg (enA (k.2, id)))] (by kernel_rfl) (.slice (some ⟨gq, 0, none⟩) 1 1) _ hbd ?_
 clear hbd
 simp only [pu]
 refine gze (fun u w' => Rowen w' 0 u E2 ∧ W2.grownBy w' v.ownBlock ∧ (u.ownBlock = v.ownBlock ∨ ∃ j, W2.heap.size ≤ j ∧ u.ownBlock = some j)) CI (fun v' W3 hq3 => ?_)
 obtain ⟨hr3, hg3, hat3⟩ := hq3
 have hX3 : Bx W3 g #[.map (some B), .int .i64 ln] 62 := (hg3.5 g hX2.lt (Ne.symm HVG.out)).trans hX2
 have hM3 := hM2.same (hg3.5 B hM2.lt (Ne.symm HVB.out))
 have HC3 := Lib.hid (HC2.out.trans' (buts_grown (Q := fun j => j = g ∨ j = B ∨ v.ownBlock = some j) hg3 fun j hj => .inr (.inr hj)))
 have HAT : Hid (v'.ownBlock = v.ownBlock ∨ ∃ j, w.heap.size ≤ j ∧ v'.ownBlock = some j) := Lib.hid (hat3.imp (fun h => h) fun ⟨j, h1, h2⟩ => ⟨j, Nat.le_trans HSZ.out h1, h2⟩)
 have HNB : Hid (v'.ownBlock ≠ some B ∧ v'.ownBlock ≠ some g) := Lib.hid ⟨fun e => by obtain ⟨es, c, h1⟩ := hM3.map; exact row_nm hr3 e h1, fun e => row_ne hr3 e hX3 (by decide)⟩
 have CU := q_put hX3 hM3 k.1 hk hr3
 have hr3H := Lib.hid hr3
 clear hg3 hat3 hr3 hX2 hM2 HC2 CI HSZ
 simp only [pu]
 refine gzc (.tuple #[]) (fun w' => Mf w' B (updF f k.1 (optV E2 v')) ∧ W3.grownBy w' (some B)) CU (fun W4 hq4 => ?_)
 obtain ⟨hM4, hg4⟩ := hq4
 have hX4 : Bx W4 g #[.map (some B), .int .i64 ln] 62 := (hg4.5 g hX3.lt (by intro e; cases e; obtain ⟨es, c, h1⟩ := hM3.map; unfold Bx at hX3; rw [h1] at hX3; cases hX3)).trans hX3
 have hr4 : Rowen W4 0 v' E2 := row_same hr3H.out fun j hj => hg4.5 j (hr3H.out.lt j hj).2 fun e => HNB.out.1 (by rw [hj, e])
 have HC4 := Lib.hid (HC3.out.trans' (buts_grown (Q := fun j => j = g ∨ j = B ∨ v.ownBlock = some j) hg4 fun j hj => .inr (.inl (by cases hj; rfl))))
 obtain ⟨W5, hst5, hX5, hbt5⟩ := st_fld (i := 1) (v := .int .i64 (ln + 1 : Nat)) (ty := 3) #[.map (some B), .int .i64 (ln + 1 : Nat)] hX4 (by simp) rfl rfl (by kernel_rfl)
 have hr5 : Rowen W5 0 v' E2 := row_same hr4 fun j hj => hbt5.2 j (hr4.lt j hj).2 fun e => HNB.out.2 (by rw [hj, e])
 have hM5 := hM4.same (hbt5.2 B hM4.lt fun e => by obtain ⟨es, c, h1⟩ := hM4.map; unfold Bx at hX4; rw [← e, h1] at hX4; cases hX4)
 have HC5 := HC4.out.trans' (buts_but (Q := fun j => j = g ∨ j = B ∨ v.ownBlock = some j) hbt5 (.inl rfl))
 have HE := Lib.hid (HUP.out W5 v' hX5 hM5 hr5 HAT.out HC5)
 clear hg4 hr4 HC4 hX5 hbt5 hr5 hM5 HC5 hM4 hX3 hM3 HC3 HNB HAT CU hr3H HUP
 simp only [pu]
 apply wpList_nil
 go_upto_region 8 with fail
 refine wl <| gz3 (.pointer (some ⟨g, 0, none⟩)) (.pointer (some ⟨g, 0, none⟩)) (.pointer (some ⟨g, 1, none⟩)) <| gzl rfl ⟨g, 1, none⟩ (.int .i64 ln) (hX4.load (i := 1) rfl (by kernel_rfl)) <| gzv (.int .i64 (ln + 1 : Nat)) (add_one rfl ln (by have := HLN.out; omega) (by kernel_rfl) _) <|
  gz2 (.pointer (some ⟨g, 0, none⟩)) (.pointer (some ⟨g, 1, none⟩)) <| gzs rfl (hst5) <| wn ?_
 simp only [pu]
 clear hst5 hX4 HVB HVG HLN
 go_upto_region 9 with fail
 refine wl <| gz1 (.bool true) <| wn ?_
 simp only [pu]
 go_wp2_with fail
 go_ret
 exact ⟨rfl, HE.out⟩
set_option maxRecDepth 100000 in
set_option maxHeartbeats 8000000 in
theorem rem_old {w : World} {g B : Nat} {f : ByteArray → Option Value} {m : List Rw} (h : Ri w g B f m) (hm : Srt m) (hl : m.length ≤ 1000) (k : Ky) (hh : hasR m k = false) : Calls Try.prog 19 #[.pointer (some ⟨g, 0, none⟩), .string k.1, .int .u64 k.2] w fun e w' => e = .returned (.bool false) ∧ Below w.heap.size w w' := by
 have CL := q_lst h k.1
 obtain ⟨v, hv, hrow, hor⟩ := h.look k.1
 rw [hv] at CL
 have hEl : (lstE m k.1).length ≤ 1000 := Nat.le_trans (lst_len m k.1) hl
 have CP := q_place' hrow (lst_srt hm k.1) (by omega) k.2
 rw [hasE_is k, hh] at CP
 generalize cntE (lstE m k.1) k.2 = ct at *
 clear h hm hl hh hv hrow hor hEl
 go_enter Try.func19, Try.ntmps19
 go_upto_region 1 with fail
 refine wl <| gz2 (.pointer (some ⟨g, 0, none⟩)) (.string k.1) <| gzc (v) (fun w' => w = w') (CL) (fun V9 hV9 => ?_)
 subst hV9
 simp only [pu]
 refine gz1 (v) <| wn ?_
 simp only [pu]
 clear CL
 go_upto_region 2 with fail
 refine wl <| gz2 (v) (.int .u64 k.2) <| gzc (.tuple #[.int .i64 ct, .bool false]) (fun w' => Below w.heap.size w w') (CP) (fun W1 hW1 => ?_)
 have HB := Lib.hid hW1
 simp only [pu]
 refine gz5 (.tuple #[.int .i64 ct, .bool false]) (.int .i64 ct) (.bool false) (.int .i64 ct) (.bool false) <| wn ?_
 simp only [pu]
 clear CP hW1
 go_upto_region 3 with fail
 refine wl <| gz2 (.bool false) (.bool true) <| wn ?_
 simp only [pu]
 go_upto_region 4 with fail
 refine wl <| gz1 (.bool false) <| wn ?_
 simp only [pu]
 go_wp2_with fail
 go_ret
 exact ⟨rfl, HB.out⟩
set_option maxRecDepth 100000 in
set_option maxHeartbeats 8000000 in
theorem rem_new {w : World} {g B : Nat} {f : ByteArray → Option Value} {m : List Rw} (h : Ri w g B f m) (hm : Srt m) (hl : m.length ≤ 1000) (k : Ky) (hk : k.1.size ≤ 1000000) (hh : hasR m k = true) {S : Nat → Prop} (hS : S = SpI g B f) {B0 : Nat} (hB : ∀ j, S j → B0 ≤ j) (hw : B0 ≤ w.heap.size) : Calls Try.prog 19 #[.pointer (some ⟨g, 0, none⟩), .string k.1, .int .u64 k.2] w fun e w' => e = .returned (.bool true) ∧ UpdI g B0 S (remR k m) w w' := by
 have hX := h.bx
 have CL := q_lst h k.1
 obtain ⟨v, hv, hrow, hor⟩ := h.look k.1
 rw [hv] at CL
 have hEl : (lstE m k.1).length ≤ 1000 := Nat.le_trans (lst_len m k.1) hl
 have CP := q_place' hrow (lst_srt hm k.1) (by omega) k.2
 rw [hasE_is k, hh] at CP
 have hAD := rem_yes hm hh
 have hvg : v.ownBlock ≠ some g := fun e => hor.elim (fun h1 => h.ng h1 e) fun h1 => nil_own h1 e
 have hvB : v.ownBlock ≠ some B := fun e => hor.elim (fun h1 => h.nB h1 e) fun h1 => nil_own h1 e
 have HVB := Lib.hid hvB
 have HVG := Lib.hid hvg
 have hct := hAD.lt
 have hlen := hAD.len
 have HUP : Hid (∀ W v', Bx W g #[.map (some B), .int .i64 ((m.length : Int) - 1)] 62 → Mf W B (updF f k.1 (optV (lstE (remR k m) k.1) v')) → Rowen W 0 v' (lstE (remR k m) k.1) → (v'.ownBlock = v.ownBlock ∨ ∃ j, w.heap.size ≤ j ∧ v'.ownBlock = some j) → ButS 0 (fun j => j = g ∨ j = B ∨ v.ownBlock = some j) w W → UpdI g B0 S (remR k m) w W) := Lib.hid fun W v' h1 h2 h3 h4 h5 => h.upd hor (by rw [show ((remR k m).length : Int) = (m.length : Int) - 1 by omega]; exact h1) h2 h3 hAD.oth h4 h5 hS hB hw
 have hown := hAD.own
 generalize cntE (lstE m k.1) k.2 = ct at *
 obtain ⟨E, hE⟩ : ∃ E, lstE m k.1 = E := ⟨_, rfl⟩
 obtain ⟨E2, hE2⟩ : ∃ E, lstE (remR k m) k.1 = E := ⟨_, rfl⟩
 rw [hE, hE2] at hown
 rw [hE] at hrow hEl hct
 rw [hE2] at HUP
 generalize remR k m = m2 at *
 have HM := Lib.hid h.mp
 have HOW := Lib.hid hown.symm
 have HLN : Hid (m.length ≤ 1000) := Lib.hid hl
 obtain ⟨ln, hln⟩ : ∃ ln, m.length = ln := ⟨_, rfl⟩
 rw [hln] at hX HUP HLN
 clear h hm hl hh hv hor hAD hvg hvB hE hE2 hown hln hB hw hS hlen
 go_enter Try.func19, Try.ntmps19
 go_upto_region 1 with fail
 refine wl <| gz2 (.pointer (some ⟨g, 0, none⟩)) (.string k.1) <| gzc (v) (fun w' => w = w') (CL) (fun V9 hV9 => ?_)
 subst hV9
 simp only [pu]
 refine gz1 (v) <| wn ?_
 simp only [pu]
 clear CL
 go_upto_region 2 with fail
 refine wl <| gz2 (v) (.int .u64 k.2) <| gzc (.tuple #[.int .i64 ct, .bool true]) (fun w' => Below w.heap.size w w') (CP) (fun W2 hW2 => ?_)
 simp only [pu]
 refine gz5 (.tuple #[.int .i64 ct, .bool true]) (.int .i64 ct) (.bool true) (.int .i64 ct) (.bool true) <| wn ?_
 simp only [pu]
 clear CP
 go_upto_region 3 with fail
 refine wl <| gz2 (.bool true) (.bool false) <| wn ?_
 simp only [pu]
 have hX2 := hX.below hX.lt hW2
 have hM2 := HM.out.same (hW2.block B HM.out.lt)
 have CI := q_del (hrow.below hW2) hct (by omega)
 rw [HOW.out] at CI
 have HC2 : Hid (ButS 0 (fun j => j = g ∨ j = B ∨ v.ownBlock = some j) w W2) := Lib.hid (buts_below hW2)
 have HSZ : Hid (w.heap.size ≤ W2.heap.size) := Lib.hid hW2.size
 have HCT : Hid (ct ≤ 1000) := Lib.hid (by omega)
 clear hX hrow hW2 HM HOW hEl hct
 go_upto_region 5 with fail
 refine wl <| gz5 (.pointer (some ⟨g, 0, none⟩)) (.string k.1) (v) (.int .i64 ct) (.int .i64 ct) <| gzv (.int .i64 (ct + 1 : Nat)) (add_one rfl ct (by have := HCT.out; omega) (by kernel_rfl) _) <|
  gze (fun u w' => Rowen w' 0 u E2 ∧ W2.grownBy w' v.ownBlock ∧ (u.ownBlock = v.ownBlock ∨ ∃ j, W2.heap.size ≤ j ∧ u.ownBlock = some j)) CI (fun v' W3 hq3 => ?_)
 obtain ⟨hr3, hg3, hat3⟩ := hq3
 have hX3 : Bx W3 g #[.map (some B), .int .i64 ln] 62 := (hg3.5 g hX2.lt (Ne.symm HVG.out)).trans hX2
 have hM3 := hM2.same (hg3.5 B hM2.lt (Ne.symm HVB.out))
 have HC3 := Lib.hid (HC2.out.trans' (buts_grown (Q := fun j => j = g ∨ j = B ∨ v.ownBlock = some j) hg3 fun j hj => .inr (.inr hj)))
 have HAT : Hid (v'.ownBlock = v.ownBlock ∨ ∃ j, w.heap.size ≤ j ∧ v'.ownBlock = some j) := Lib.hid (hat3.imp (fun h => h) fun ⟨j, h1, h2⟩ => ⟨j, Nat.le_trans HSZ.out h1, h2⟩)
 have HNB : Hid (v'.ownBlock ≠ some B ∧ v'.ownBlock ≠ some g) := Lib.hid ⟨fun e => by obtain ⟨es, c, h1⟩ := hM3.map; exact row_nm hr3 e h1, fun e => row_ne hr3 e hX3 (by decide)⟩
 have CU := q_put hX3 hM3 k.1 hk hr3
 have hr3H := Lib.hid hr3
 clear hg3 hat3 hr3 hX2 hM2 HC2 CI HSZ
 simp only [pu]
 refine gzc (.tuple #[]) (fun w' => Mf w' B (updF f k.1 (optV E2 v')) ∧ W3.grownBy w' (some B)) CU (fun W4 hq4 => ?_)
 obtain ⟨hM4, hg4⟩ := hq4
 have hX4 : Bx W4 g #[.map (some B), .int .i64 ln] 62 := (hg4.5 g hX3.lt (by intro e; cases e; obtain ⟨es, c, h1⟩ := hM3.map; unfold Bx at hX3; rw [h1] at hX3; cases hX3)).trans hX3
 have hr4 : Rowen W4 0 v' E2 := row_same hr3H.out fun j hj => hg4.5 j (hr3H.out.lt j hj).2 fun e => HNB.out.1 (by rw [hj, e])
 have HC4 := Lib.hid (HC3.out.trans' (buts_grown (Q := fun j => j = g ∨ j = B ∨ v.ownBlock = some j) hg4 fun j hj => .inr (.inl (by cases hj; rfl))))
 obtain ⟨W5, hst5, hX5, hbt5⟩ := st_fld (i := 1) (v := .int .i64 ((ln : Int) - 1)) (ty := 3) #[.map (some B), .int .i64 ((ln : Int) - 1)] hX4 (by simp) rfl rfl (by kernel_rfl)
 have hr5 : Rowen W5 0 v' E2 := row_same hr4 fun j hj => hbt5.2 j (hr4.lt j hj).2 fun e => HNB.out.2 (by rw [hj, e])
 have hM5 := hM4.same (hbt5.2 B hM4.lt fun e => by obtain ⟨es, c, h1⟩ := hM4.map; unfold Bx at hX4; rw [← e, h1] at hX4; cases hX4)
 have HC5 := HC4.out.trans' (buts_but (Q := fun j => j = g ∨ j = B ∨ v.ownBlock = some j) hbt5 (.inl rfl))
 have HE := Lib.hid (HUP.out W5 v' hX5 hM5 hr5 HAT.out HC5)
 clear hg4 hr4 HC4 hX5 hbt5 hr5 hM5 HC5 hM4 hX3 hM3 HC3 HNB HAT CU hr3H HUP
 simp only [pu]
 apply wpList_nil
 go_upto_region 6 with fail
 refine wl <| gz3 (.pointer (some ⟨g, 0, none⟩)) (.pointer (some ⟨g, 0, none⟩)) (.pointer (some ⟨g, 1, none⟩)) <| gzl rfl ⟨g, 1, none⟩ (.int .i64 ln) (hX4.load (i := 1) rfl (by kernel_rfl)) <|
  gzw (.int .i64 ((ln : Int) - 1)) (sub_i rfl ln 1 (by have := HLN.out; omega)) <| gz2 (.pointer (some ⟨g, 0, none⟩)) (.pointer (some ⟨g, 1, none⟩)) <| gzs rfl (hst5) <| wn ?_
 simp only [pu]
 clear hst5 hX4 HVB HVG HLN HCT
 go_upto_region 7 with fail
 refine wl <| gz1 (.bool true) <| wn ?_
 simp only [pu]
 go_wp2_with fail
 go_ret
 exact ⟨rfl, HE.out⟩
theorem RepI.upd {w w' : World} {g B0 : Nat} {S : Nat → Prop} {m : List Rw} (h : RepI w g S m) (hb : Below w.heap.size w w') (hw : B0 ≤ w.heap.size) : UpdI g B0 S m w w' := ⟨S, h.below hb, fun k hk => .inl hk, ButS.of_below hb hw⟩
theorem q_add {w : World} {g : Nat} {S : Nat → Prop} {m : List Rw} (h : RepI w g S m) (hm : Srt m) (hl : m.length ≤ 1000) (k : Ky) (hk : k.1.size ≤ 1000000) (id : Int) {B0 : Nat} (hB : ∀ j, S j → B0 ≤ j) (hw : B0 ≤ w.heap.size) : Calls Try.prog 20 #[.pointer (some ⟨g, 0, none⟩), .string k.1, .int .u64 k.2, .int .i64 id] w fun e w' => e = .returned (.bool (!hasR m k)) ∧ UpdI g B0 S (addR m k id) w w' := by
 have h0 := h
 obtain ⟨B, f, h1, hS⟩ := h
 cases hh : hasR m k with
 | true => exact (add_old h1 hm hl k id hh).mono fun e w' z => ⟨z.1, by rw [add_no hh]; exact h0.upd z.2 hw⟩
 | false => exact add_new h1 hm hl k hk id hh hS hB hw
theorem q_rem {w : World} {g : Nat} {S : Nat → Prop} {m : List Rw} (h : RepI w g S m) (hm : Srt m) (hl : m.length ≤ 1000) (k : Ky) (hk : k.1.size ≤ 1000000) {B0 : Nat} (hB : ∀ j, S j → B0 ≤ j) (hw : B0 ≤ w.heap.size) : Calls Try.prog 19 #[.pointer (some ⟨g, 0, none⟩), .string k.1, .int .u64 k.2] w fun e w' => e = .returned (.bool (hasR m k)) ∧ UpdI g B0 S (remR k m) w w' := by
 have h0 := h
 obtain ⟨B, f, h1, hS⟩ := h
 cases hh : hasR m k with
 | false => exact (rem_old h1 hm hl k hh).mono fun e w' z => ⟨z.1, by rw [rem_no hh]; exact h0.upd z.2 hw⟩
 | true => exact rem_new h1 hm hl k hk hh hS hB hw
set_option maxRecDepth 100000 in
set_option maxHeartbeats 8000000 in
theorem add_nil (s : ByteArray) (q i : Int) (w : World) : Calls Try.prog 20 #[.pointer none, .string s, .int .u64 q, .int .i64 i] w fun e w' => e = .returned (.bool false) ∧ w = w' := by
 go_enter Try.func20, Try.ntmps20
 go_upto_region 1 with fail
 refine wl <| gz2 (.pointer none) (.bool true) <| wn ?_
 simp only [pu]
 go_upto_region 2 with fail
 refine wl <| gz1 (.bool false) <| wn ?_
 simp only [pu]
 go_wp2_with fail
 go_ret
 exact ⟨rfl, rfl⟩
set_option maxRecDepth 100000 in
set_option maxHeartbeats 8000000 in
theorem rem_nil (s : ByteArray) (q : Int) (w : World) : Calls Try.prog 19 #[.pointer none, .string s, .int .u64 q] w fun e w' => e = .returned (.bool false) ∧ Below w.heap.size w w' := by
 have CL := q_lst0 s w
 have CP := q_place' (w := w) (E := []) (B := 0) (own_no w 0 73 2) List.Pairwise.nil (by decide) q
 change Calls Try.prog 32 _ _ (fun e w' => e = .returned (.tuple #[.int .i64 (0 : Nat), .bool false]) ∧ _) at CP
 go_enter Try.func19, Try.ntmps19
 go_upto_region 1 with fail
 refine wl <| gz2 (.pointer none) (.string s) <| gzc (.slice none 0 0) (fun w' => w = w') (CL) (fun V9 hV9 => ?_)
 subst hV9
 simp only [pu]
 refine gz1 (.slice none 0 0) <| wn ?_
 simp only [pu]
 clear CL
 go_upto_region 2 with fail
 refine wl <| gz2 (.slice none 0 0) (.int .u64 q) <| gzc (.tuple #[.int .i64 (0 : Nat), .bool false]) (fun w' => Below w.heap.size w w') (CP) (fun W1 hW1 => ?_)
 have HB := Lib.hid hW1
 simp only [pu]
 refine gz5 (.tuple #[.int .i64 (0 : Nat), .bool false]) (.int .i64 (0 : Nat)) (.bool false) (.int .i64 (0 : Nat)) (.bool false) <| wn ?_
 simp only [pu]
 clear CP hW1
 go_upto_region 3 with fail
 refine wl <| gz2 (.bool false) (.bool true) <| wn ?_
 simp only [pu]
 go_upto_region 4 with fail
 refine wl <| gz1 (.bool false) <| wn ?_
 simp only [pu]
 go_wp2_with fail
 go_ret
 exact ⟨rfl, HB.out⟩
end Go.Proofs.Ytjononjpoeobcaa
