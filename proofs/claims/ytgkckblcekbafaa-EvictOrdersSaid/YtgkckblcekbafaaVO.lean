/-
 The program's Order: contract.
-/
import Derived.Test.YtgkckblcekbafaaVL
namespace Go.Proofs.Ytgkckblcekbafaa
attribute [local irreducible] wpList wpQuiet
open Go.RowKit
set_option maxRecDepth 100000
set_option linter.unusedSimpArgs false
set_option linter.unusedVariables false

theorem enw_but {w w' : World} {B b : Nat} {e : En} {d : Ad} {cur : Array Value} (h : EnW w B e d) (hX : Bx w b cur 50) (hb : But b w w') : EnW w' B e d := ⟨own_butq h.r hb (own_box h.r hX (by decide)), own_butq h.p hb (own_box h.p hX (by decide))⟩
theorem ow_fld {w : World} {B b c : Nat} {Y : List (En × Ad)} (h : Rowee w B (.slice (some ⟨b, 0, none⟩) Y.length c) Y) {i j : Nat} (hi : i < Y.length) (hj : j < 41) {v : Value} (h1 : v.oneCell' = true) {ty : TypeId} (hs : (Try.prog.info? ty).map (·.size) = some 1) {y : En × Ad}
  (hy : (enp (Y.getD i zEA)).take j ++ [v] ++ (enp (Y.getD i zEA)).drop (j + 1) = enp y) : ∃ V, (Instr.storeAt ty (.pointer (some ⟨b, 0 + i * 41 + j, none⟩)) v).run Try.prog w = .ok () V ∧ Rowee V B (.slice (some ⟨b, 0, none⟩) Y.length c) (Y.set i y) ∧ But b w V := by
 obtain ⟨cur, hX, hz, -, -⟩ := own_row h
 rw [Nat.zero_add]
 refine ⟨_, run_store_cell hX (by have := Nat.mul_le_mul_right 41 (show i + 1 ≤ Y.length from hi); omega) h1 hs, ?_, But.setCell w _ v⟩
 have h2 := own_part (f := enp) enp_len zEA (i := i) (o := j) (vs := [v]) (y := y) h hi (by simp; omega) (by simpa using hy)
 unfold Rowee
 rw [List.length_set]
 exact h2
theorem app_nn {w : World} {e : En} {d : Ad} (h : EnI w e d) (hl : e.raw.length ≤ 100000) : ∃ a2 c2 V, (Builtin.append_ #[48, 48] 48 #[.slice none 0 0, .slice d.ra e.raw.length d.rc]).run Try.prog w = .ok (.slice a2 e.raw.length c2) V ∧ V.ownsRow w.heap.size 5 1 (.slice a2 e.raw.length c2) e.raw.length (bcells e.raw) ∧ Below w.heap.size w V := app_by h.r hl
theorem own_mono {w : World} {B B2 e s n : Nat} {v : Value} {xs : List Value} (h : w.ownsRow B2 e s v n xs) (hB : B ≤ B2) : w.ownsRow B e s v n xs :=
 ⟨h.1, h.2.imp id fun ⟨g, cap, cur, e0, hb, r⟩ => ⟨g, cap, cur, e0, Nat.le_trans hB hb, r⟩⟩
/-- What is known while the entries get slices of their own: those ahead of i have them, the others are as they were. -/
structure OD9 (w0 V : World) (b c i : Nat) (O Y : List (En × Ad)) : Prop where
 row : Rowee V w0.heap.size (.slice (some ⟨b, 0, none⟩) O.length c) Y
 len : Y.length = O.length
 same : lE Y = lE O
 own : ∀ j, j < i → j < O.length → EnW V w0.heap.size (Y.getD j zEA).1 (Y.getD j zEA).2
 old : ∀ j, i ≤ j → j < O.length → Y.getD j zEA = O.getD j zEA
 bel : Below w0.heap.size w0 V
theorem OD9.ge {w0 V : World} {b c i : Nat} {O Y : List (En × Ad)} (h : OD9 w0 V b c i O Y) : w0.heap.size ≤ b ∧ b < V.heap.size := by
 obtain ⟨cur, hX, -, h3, -⟩ := own_row (n := Y.length) (c := c) (b := b) (by have := h.row; rw [← h.len] at this; exact this)
 exact ⟨h3, hX.lt⟩
theorem OD9.below {w0 V V' : World} {b c i : Nat} {O Y : List (En × Ad)} (h : OD9 w0 V b c i O Y) (hb : Below V.heap.size V V') : OD9 w0 V' b c i O Y :=
 ⟨own_below h.row hb, h.len, h.same, fun j h1 h2 => (h.own j h1 h2).below hb, h.old, h.bel.trans (hb.mono h.bel.size)⟩
theorem lE_set (Y : List (En × Ad)) (i : Nat) (y : En × Ad) (hi : i < Y.length) (hy : y.1 = (Y.getD i zEA).1) : lE (Y.set i y) = lE Y := by
 unfold lE
 rw [List.map_set, hy]
 refine List.ext_getElem (by simp) fun k h1 h2 => ?_
 rw [List.getElem_set]
 split
 ·rename_i h
  subst h
  rw [List.getD_eq_getElem?_getD, List.getElem?_eq_getElem hi, List.getElem_map]
  rfl
 ·rfl
/-- One entry gets slices of its own. -/
theorem OD9.step {w0 V : World} {b c i g5 : Nat} {O Y : List (En × Ad)} (h : OD9 w0 V b c i O Y) (hi : i < O.length) (hB : Bx V g5 (enA (O.getD i zEA).1 (O.getD i zEA).2) 50) (hg : b < g5) (hE : EnI w0 (O.getD i zEA).1 (O.getD i zEA).2)
  (hr : (O.getD i zEA).1.raw.length ≤ 100000) (hp : (O.getD i zEA).1.prs.length ≤ 100000) :
  ∃ a2 c2 U1 U2 a3 c3 U3 U4 Y', (Builtin.append_ #[48, 48] 48 #[.slice none 0 0, .slice (O.getD i zEA).2.ra (O.getD i zEA).1.raw.length (O.getD i zEA).2.rc]).run Try.prog V = .ok (.slice a2 (O.getD i zEA).1.raw.length c2) U1 ∧
   (Instr.storeAt 48 (.pointer (some ⟨b, 0 + i * 41 + 32, none⟩)) (.slice a2 (O.getD i zEA).1.raw.length c2)).run Try.prog U1 = .ok () U2 ∧ Bx U2 g5 (enA (O.getD i zEA).1 (O.getD i zEA).2) 50 ∧
   (Builtin.append_ #[23, 23] 23 #[.slice none 0 0, .slice (O.getD i zEA).2.pa (O.getD i zEA).1.prs.length (O.getD i zEA).2.pc]).run Try.prog U2 = .ok (.slice a3 (O.getD i zEA).1.prs.length c3) U3 ∧
   (Instr.storeAt 23 (.pointer (some ⟨b, 0 + i * 41 + 40, none⟩)) (.slice a3 (O.getD i zEA).1.prs.length c3)).run Try.prog U3 = .ok () U4 ∧ OD9 w0 U4 b c (i + 1) O Y' := by
 have hx := h.old i (Nat.le_refl _) hi
 have hge := h.ge
 have hl := h.len
 have hlt := hE.lt
 have hsm := lE_at Y i (by omega)
 generalize O.getD i zEA = x at *
 obtain ⟨e, d⟩ := x
 have hne : ¬ EB e d b := fun q => by have := hlt b q; omega
 have hI := hE.below ((Below.refl _ w0).trans (h.bel))
 obtain ⟨a2, c2, U1, hr1, ho1, hb1⟩ := app_by hI.r hr
 have h1 := h.below hb1
 have hR1 := h1.row
 rw [← hl] at hR1
 obtain ⟨cur1, hX1, -, -, -⟩ := own_row hR1
 obtain ⟨U2, hs2, hR2, hbt2⟩ := ow_fld hR1 (i := i) (j := 32) (by omega) (by omega) (v := .slice a2 e.raw.length c2) rfl (ty := 48) (by kernel_rfl) (y := (e, ⟨a2, c2, d.pa, d.pc⟩)) (by rw [hx]; kernel_rfl)
 have hB1 := hB.below hB.lt hb1
 have hB2 := hB1.but hbt2 (by omega)
 have hI2 := (hI.below hb1).but hbt2 hne
 obtain ⟨a3, c3, U3, hr3, ho3, hb3⟩ := app_is hI2.p hp
 have hR3 : Rowee U3 w0.heap.size (.slice (some ⟨b, 0, none⟩) (Y.set i (e, ⟨a2, c2, d.pa, d.pc⟩)).length c) (Y.set i (e, ⟨a2, c2, d.pa, d.pc⟩)) := by rw [List.length_set]; exact own_below hR2 hb3
 obtain ⟨cur3, hX3, -, -, -⟩ := own_row hR3
 have hgs : (Y.set i (e, ⟨a2, c2, d.pa, d.pc⟩)).getD i zEA = (e, ⟨a2, c2, d.pa, d.pc⟩) := getD_set_eq _ _ _ _ (by omega)
 obtain ⟨U4, hs4, hR4, hbt4⟩ := ow_fld hR3 (i := i) (j := 40) (by rw [List.length_set]; omega) (by omega) (v := .slice a3 e.prs.length c3) rfl (ty := 23) (by kernel_rfl) (y := (e, ⟨a2, c2, a3, c3⟩)) (by rw [hgs]; kernel_rfl)
 rw [List.set_set, List.length_set] at hR4
 have bo1 : V.ownsRow 0 50 41 (.slice none 0 0) 0 [] := World.ownsRow_nil _ _ _ _
 have b12 : Below w0.heap.size V U4 := (hb1.mono h.bel.size).trans ((hbt2.below hge.1).trans ((hb3.mono (by have := hbt2.1.size; have := hb1.size; have := h.bel.size; omega)).trans (hbt4.below hge.1)))
 have ho2 : U2.ownsRow V.heap.size 5 1 (.slice a2 e.raw.length c2) e.raw.length (bcells e.raw) := own_butq ho1 hbt2 (own_box ho1 hX1 (by decide))
 have ho4 : U4.ownsRow V.heap.size 5 1 (.slice a2 e.raw.length c2) e.raw.length (bcells e.raw) := own_butq (own_below ho2 hb3) hbt4 (own_box (own_below ho2 hb3) hX3 (by decide))
 have hp4 : U4.ownsRow U2.heap.size 3 1 (.slice a3 e.prs.length c3) e.prs.length (icells e.prs) := own_butq ho3 hbt4 (own_box ho3 hX3 (by decide))
 have hs02 : w0.heap.size ≤ U2.heap.size := by have := hbt2.1.size; have := hb1.size; have := h.bel.size; omega
 refine ⟨a2, c2, U1, U2, a3, c3, U3, U4, Y.set i (e, ⟨a2, c2, a3, c3⟩), hr1, hs2, hB2, hr3, hs4, ⟨by rw [← hl]; exact hR4, by rw [List.length_set]; exact hl, ?_, fun j q1 q2 => ?_, fun j q1 q2 => ?_, h.bel.trans b12⟩⟩
 ·rw [lE_set _ _ _ (by omega) (by rw [hx]), h.same]
 ·rcases Nat.lt_or_ge j i with q3 | q3
  ·rw [getD_set_ne _ _ _ _ _ (by omega)]
   exact enw_but ((enw_but ((h.own j q3 q2).below hb1) hX1 hbt2).below hb3) hX3 hbt4
  ·obtain rfl : j = i := by omega
   rw [getD_set_eq _ _ _ _ (by omega)]
   exact ⟨own_mono ho4 h.bel.size, own_mono hp4 hs02⟩
 ·rw [getD_set_ne _ _ _ _ _ (by omega)]
  exact h.old j (by omega) q2
theorem ord_en {w : World} {a : Option Addr} {X : List (En × Ad)} (h : Xr w a X) : ∀ i, i < (ordX X).length → EnI w ((ordX X).getD i zEA).1 ((ordX X).getD i zEA).2 := en_sub fun x hx => sub_en h.en x ((ord_perm X).mem_iff.1 hx)
theorem at_of {P : En × Ad → Prop} {X : List (En × Ad)} (h : ∀ x ∈ X, P x) (i : Nat) (hi : i < (ordX X).length) : P ((ordX X).getD i zEA) := h _ ((ord_perm X).mem_iff.1 (by rw [List.getD_eq_getElem?_getD, List.getElem?_eq_getElem hi]; exact List.getElem_mem hi))
set_option maxRecDepth 100000 in
set_option maxHeartbeats 8000000 in
theorem q_order {w : World} {a : Option Addr} {c : Nat} {X : List (En × Ad)} (h : Xr w a X) (hl : X.length ≤ 100000) (hS : ∀ x ∈ X, x.1.raw.length ≤ 100000 ∧ x.1.prs.length ≤ 100000) : Calls Try.prog 13 #[.slice a X.length c] w fun e w' => ∃ a2 c2 Y, e = .returned (.slice a2 X.length c2) ∧ Xr w' a2 Y ∧ Y.length = X.length ∧ lE Y = ordL (lE X) ∧ Below w.heap.size w w' := by
 have hlv := q_leav (c := c) h hl
 have HEN := Lib.hid (ord_en h)
 have HSZ : Hid (∀ i, i < (ordX X).length → ((ordX X).getD i zEA).1.raw.length ≤ 100000 ∧ ((ordX X).getD i zEA).1.prs.length ≤ 100000) := Lib.hid fun i hi => at_of hS i hi
 have hol := ord_len X
 have HLE := Lib.hid (lE_ord X)
 obtain ⟨O, hO⟩ : ∃ O, ordX X = O := ⟨_, rfl⟩
 obtain ⟨n, hn⟩ : ∃ n, X.length = n := ⟨_, rfl⟩
 rw [hO] at hlv HEN HSZ hol HLE
 rw [hn] at hlv hol hl ⊢
 have HN : Hid (n ≤ 100000 ∧ O.length = n) := Lib.hid ⟨hl, hol⟩
 clear h hl hS hol hO hn
 go_enter Try.func13, Try.ntmps13
 go_upto_region 1 with fail
 refine wl <| gz1 (.slice a n c) <| gze (fun v w' => Rowee w' w.heap.size v O ∧ Below w.heap.size w w') (hlv) (fun v9 V1 hV1 => ?_)
 simp only [pu]
 refine gz1 (v9) <| wn ?_
 simp only [pu]
 obtain ⟨hr1, hb1⟩ := hV1
 obtain ⟨a9, c9, rfl, hcs, hc9⟩ := hr1.cs
 rw [HN.out.2] at hr1 ⊢
 have HA : Hid (0 < n → ∃ b, a9 = some ⟨b, 0, none⟩) := Lib.hid fun h0 => by
  rcases hr1.2 with ⟨e0, e1⟩ | ⟨b, cap, cur, e0, -⟩
  ·simp only [Value.slice.injEq] at e0
   omega
  ·simp only [Value.slice.injEq] at e0
   exact ⟨b, e0.1⟩
 have HST : Hid ((∀ b, a9 = some ⟨b, 0, none⟩ → ∃ Y, OD9 w V1 b c9 0 O Y) ∧ Below w.heap.size w V1) := Lib.hid ⟨fun b hb => ⟨O, by rw [HN.out.2, ← hb]; exact hr1, rfl, rfl, fun j h1 _ => by omega, fun _ _ _ => rfl, hb1⟩, hb1⟩
 clear hlv hr1 hb1 hcs hc9
 go_upto_region 2 with fail
 refine wl <| gz3 (.slice a9 n c9) (.int .i64 n) (.int .i64 0) <| wn ?_
 simp only [pu]
 go_wp2_with fail
 go_loopg [10] n (fun gg s10 wx => ∃ (i : Nat), s10 = .int .i64 i ∧ i ≤ n ∧ gg + i = n ∧ Hid ((∀ b, a9 = some ⟨b, 0, none⟩ → ∃ Y, OD9 w wx b c9 i O Y) ∧ Below w.heap.size w wx))
 case atStart => exact ⟨0, rfl, by omega, by omega, HST⟩
 case round =>
  obtain ⟨i, rfl, hin, hg, HR⟩ := hrel
  clear HST
  have HGK : Hid (gk + i = n) := Lib.hid hg
  clear hg
  by_cases hlt : i < n
  ·skip
   obtain ⟨b, hb⟩ := HA.out (by omega)
   obtain ⟨Y, hD⟩ := HR.out.1 b hb
   obtain rfl := hb
   have hge := hD.ge
   have hiO : i < O.length := by rw [HN.out.2]; exact hlt
   have hcsY := (own_nc hD.row).1
   obtain ⟨b', off', ee, -, hrg⟩ := fl_range enp enp_len (by omega) zEA hcsY (i := i) (by rw [hD.len]; exact hiO)
   cases ee
   rw [hD.old i (Nat.le_refl _) hiO] at hrg
   obtain ⟨V2, hst2, hb2, hX5⟩ := new_bx (c := enA zEn zAd) (c' := enA (O.getD i zEA).1 (O.getD i zEA).2) (ty := 50) wr rfl (enA_one _ _) (by kernel_rfl)
   obtain ⟨a2, c2, U1, U2, a3, c3, U3, U4, Y', hr1, hs2, hX6, hr3, hs4, hD4⟩ := (hD.below hb2).step hiO hX5 hge.2 (HEN.out i hiO) (HSZ.out i hiO).1 (HSZ.out i hiO).2
   have HR2 : Hid ((∀ q, some (⟨b, 0, none⟩ : Addr) = some ⟨q, 0, none⟩ → ∃ Y, OD9 w U4 q c9 (i + 1) O Y) ∧ Below w.heap.size w U4) := Lib.hid ⟨fun q hq => by cases hq; exact ⟨Y', hD4⟩, hD4.bel⟩
   obtain ⟨x, hx⟩ : ∃ x, O.getD i zEA = x := ⟨_, rfl⟩
   rw [hx] at hrg hst2 hX5 hr1 hs2 hX6 hr3 hs4
   obtain ⟨g5, hg5⟩ : ∃ g, wr.heap.size = g := ⟨_, rfl⟩
   rw [hg5] at hX5 hX6
   clear hD hD4 hcsY hb2 hge hx HR HEN HSZ
   go_upto_region 3 with fail
   refine wl <| gzb (lss_n rfl (i) (n) dT) <| wn ?_
   simp only [pu]
   go_upto_region 4 with fail
   refine wl <| gz1 (.int .i64 i) <| gzv (.pointer (some ⟨b, 0 + i * 41, none⟩)) (idx_en b 0 n c9 i hlt _ _ _ rfl (by kernel_rfl) (by kernel_rfl)) <| gzl rfl ⟨b, 0 + i * 41, none⟩ (.agg (enA x.1 x.2)) (load_en hrg) ?_
   simp only [pu]
   refine run_to rfl (some 5) rfl (.pointer (some ⟨wr.heap.size, 0, none⟩)) (wr.alloc (.cells (enA zEn zAd) 50)) (by kernel_rfl) ?_
   simp only [pu]
   refine gz1 (.int .i64 i) <| gzs rfl (hst2) <| wn ?_
   simp only [pu]
   rw [hg5]
   clear hst2 hrg hg5
   go_upto_region 5 with fail
   refine wl <| gz3 (.slice (some ⟨b, 0, none⟩) n c9) (.int .i64 i) (.pointer (some ⟨g5, 32, none⟩)) <| gzl rfl ⟨g5, 32, none⟩ (.slice x.2.ra x.1.raw.length x.2.rc) (rg_cell (bx_range hX5) (j := 32) rfl (by kernel_rfl)) ?_
   simp only [pu]
   refine append_step rfl (some 19) rfl 48 rfl (.const (.slice none 0 0)) (.tmp 18) 48 rfl (.slice none 0 0) (.slice x.2.ra x.1.raw.length x.2.rc) (.slice a2 x.1.raw.length c2) U1 (by kernel_rfl) (by kernel_rfl) hr1 ?_
   simp only [pu]
   refine gzv (.pointer (some ⟨b, 0 + i * 41, none⟩)) (idx_en b 0 n c9 i hlt _ _ _ rfl (by kernel_rfl) (by kernel_rfl)) <| gz1 (.pointer (some ⟨b, 0 + i * 41 + 32, none⟩)) <| gzs rfl (hs2) <| wn ?_
   simp only [pu]
   clear hr1 hs2 hX5
   go_upto_region 6 with fail
   refine wl <| gz3 (.slice (some ⟨b, 0, none⟩) n c9) (.int .i64 i) (.pointer (some ⟨g5, 40, none⟩)) <| gzl rfl ⟨g5, 40, none⟩ (.slice x.2.pa x.1.prs.length x.2.pc) (rg_cell (bx_range hX6) (j := 40) rfl (by kernel_rfl)) ?_
   simp only [pu]
   refine append_step rfl (some 26) rfl 23 rfl (.const (.slice none 0 0)) (.tmp 25) 23 rfl (.slice none 0 0) (.slice x.2.pa x.1.prs.length x.2.pc) (.slice a3 x.1.prs.length c3) U3 (by kernel_rfl) (by kernel_rfl) hr3 ?_
   simp only [pu]
   refine gzv (.pointer (some ⟨b, 0 + i * 41, none⟩)) (idx_en b 0 n c9 i hlt _ _ _ rfl (by kernel_rfl) (by kernel_rfl)) <| gz1 (.pointer (some ⟨b, 0 + i * 41 + 40, none⟩)) <| gzs rfl (hs4) <| wn ?_
   simp only [pu]
   clear hr3 hs4 hX6
   go_upto_region 7 with fail
   refine wl <| gzv (.int .i64 (i + 1 : Nat)) (add_one rfl i (by have := HN.out; omega) (by kernel_rfl) _) <| gz1 (.int .i64 (i + 1 : Nat)) <| wn ?_
   simp only [pu]
   go_wp2_with fail
   go_roundg (n - (i + 1))
   case measure => have := HGK.out; omega
   case rel => exact ⟨i + 1, rfl, by omega, by omega, HR2⟩
  ·skip
   obtain rfl : i = n := by omega
   go_upto_region 3 with fail
   refine wl <| gzb (lss_n rfl (i) (i) dF) <| wn ?_
   simp only [pu]
   go_upto_region 8 with fail
   refine wl <| gz2 (.slice a9 i c9) (.slice a9 i c9) <| wn ?_
   simp only [pu]
   have HE : Hid (∃ Y, Xr wr a9 Y ∧ Y.length = i ∧ lE Y = ordL (lE X)) := Lib.hid (by
    rcases Nat.eq_zero_or_pos i with h0 | h0
    ·have hO0 : O = [] := List.length_eq_zero_iff.1 (by rw [HN.out.2, h0])
     exact ⟨[], Xr.nil _ _, by rw [h0]; rfl, by rw [← HLE.out, hO0]⟩
    ·obtain ⟨b, hb⟩ := HA.out h0
     obtain ⟨Y, hD⟩ := HR.out.1 b hb
     have hOl := HN.out.2
     refine ⟨Y, ⟨by rw [hb]; exact (own_nc hD.row).1, fun j hj => (hD.own j (by rw [hD.len] at hj; omega) (by rw [hD.len] at hj; exact hj)).i⟩, by rw [hD.len, hOl], by rw [hD.same, HLE.out]⟩)
   go_wp2_with fail
   go_ret
   obtain ⟨Y, h1, h2, h3⟩ := HE.out
   exact ⟨a9, c9, Y, rfl, h1, h2, h3, HR.out.2⟩
end Go.Proofs.Ytgkckblcekbafaa
