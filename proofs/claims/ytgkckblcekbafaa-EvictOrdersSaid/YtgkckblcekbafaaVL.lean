/-
 The entries in the order of leaving: the program's own list, contract.
-/
import Derived.Test.YtgkckblcekbafaaVU
namespace Go.Proofs.Ytgkckblcekbafaa
attribute [local irreducible] wpList wpQuiet
open Go.RowKit
set_option maxRecDepth 100000
set_option linter.unusedSimpArgs false
set_option linter.unusedVariables false

theorem make_ee (w : World) (c : Nat) (hc : c ≤ 1000000000000) : ∃ w1, (Instr.makeSlice 22 (.int .i64 0) (.int .i64 (c : Int))).run Try.prog w = .ok (.slice (some ⟨w.heap.size, 0, none⟩) 0 c) w1 ∧ Rowee w1 w.heap.size (.slice (some ⟨w.heap.size, 0, none⟩) 0 c) [] ∧ Below w.heap.size w w1 := by
 obtain ⟨i0, hi, hz0, hz1, hz2⟩ := info_parts infoEe
 obtain ⟨w1, hr, hO, hg⟩ := run_make_own (P := Try.prog) w w.heap.size 22 50 i0 _ 41 Try.underlying22 hi hz0 hz1 .i64 .i64 c (by rw [hz2]; omega) (by unfold maxLen; omega) (Nat.le_refl _)
 exact ⟨w1, hr, hO, hg.os, hg.tape, hg.output, hg.size, fun k hk => hg.block k hk (by simp)⟩
/-- The row's block is no box of another type. -/
theorem own_box {w : World} {B e s n c g t : Nat} {a : Option Addr} {xs : List Value} {cs : Array Value} (h : w.ownsRow B e s (.slice a n c) n xs) (hX : Bx w g cs t) (ht : t ≠ e) : ∀ x, a = some x → x.block ≠ g := fun x hx hg => by
 rcases h.2 with ⟨e0, -⟩ | ⟨b, cap, cur, e0, hb, hc, -⟩
 ·cases e0; cases hx
 ·simp only [Value.slice.injEq, true_and] at e0
  rw [e0.1] at hx
  cases hx
  have : some (Obj.cells cur e (0, 0)) = some (Obj.cells cs t (0, 0)) := by
   rw [← hX, ← hg]; exact hc.symm
  simp only [Option.some.injEq, Obj.cells.injEq] at this
  exact ht this.2.1.symm
theorem load_bx1 {V : World} {g3 : Nat} {v : Value} (h : Bx V g3 #[v] 22) : (Instr.loadAt 22 (.pointer (some ⟨g3, 0, none⟩))).run Try.prog V = .ok v V := rg_cell (bx_range (cs := [v]) h) (j := 0) rfl (by kernel_rfl)
/-- One entry more in the row that a variable holds. -/
theorem lv_step {V : World} {B g3 : Nat} {v : Value} {A : List (En × Ad)} (hX : Bx V g3 #[v] 22) (hO : Rowee V B v A) (hB : B ≤ g3) (x : En × Ad) (hl : A.length ≤ 100000) :
  ∃ v2 V2 V3, (Builtin.append_ #[22, 22] 22 #[v, .slice (some ⟨V.heap.size, 0, none⟩) 1 1]).run Try.prog (V.alloc (.cells (enA x.1 x.2) 50)) = .ok v2 V2 ∧ (Instr.storeAt 22 (.pointer (some ⟨g3, 0, none⟩)) v2).run Try.prog V2 = .ok () V3 ∧ Bx V3 g3 #[v2] 22 ∧ Rowee V3 B v2 (A ++ [x]) ∧ Below B V V3 := by
 have hgl := hX.lt
 have hb : Below V.heap.size V (V.alloc (.cells (enA x.1 x.2) 50)) := (Below.refl _ V).alloc (Nat.le_refl _) _
 have hc : Cs (V.alloc (.cells (enA x.1 x.2) 50)) (some ⟨V.heap.size, 0, none⟩) (ens [x]) := by
  have := Cs.block (cs := enl x.1 x.2) (t := 50) (fr := (0, 0)) (heap_alloc_last V (.cells (enA x.1 x.2) 50))
  unfold ens enp
  simpa using this
 have hO1 : Rowee (V.alloc (.cells (enA x.1 x.2) 50)) B v A := own_below hO hb
 obtain ⟨v2, V2, hr, hO2, hb2, hg2, hat2⟩ := app_ee hO1 (Nat.le_trans (by omega) hb.size) (some ⟨V.heap.size, 0, none⟩) 1 1 [x] hc rfl hl (by omega)
 obtain ⟨a, c, rfl, -, -⟩ := hO.cs
 have hX1 := hX.below hgl hb
 have hne := own_box hO hX (by decide)
 have hX2 : Bx V2 g3 #[.slice a A.length c] 22 := by
  have := hg2.block g3 hX1.lt (fun e => by
   unfold Value.ownBlock at e
   cases a with
   | none => simp at e
   | some y => simp at e; exact hne y rfl e.symm)
  exact this.trans hX1
 obtain ⟨a2, c2, rfl, -, -⟩ := hO2.cs
 obtain ⟨V3, hst, hX3, hbt⟩ := st_fld #[.slice a2 (A ++ [x]).length c2] hX2 (i := 0) (v := .slice a2 (A ++ [x]).length c2) (ty := 22) (by simp) rfl rfl (by kernel_rfl)
 have hne2 := own_box hO2 hX2 (by decide)
 refine ⟨_, V2, V3, hr, hst, hX3, own_same hO2 fun y hy => ?_, ?_⟩
 ·exact hbt.2 _ (hO2.lt y.block (by rw [hy]; rfl)).2 (hne2 y hy)
 ·exact (hb.mono (by omega)).trans (hb2.trans (hbt.1.mono hB))
theorem ord_one {X : List (En × Ad)} (h : X.length ≤ 1) : ordX X = X.reverse := by
 match X, h with
 | [], _ => rfl
 | [x], _ => rfl
/-- The library's sort at the variable's row. -/
theorem q_sortX {V : World} {B g3 : Nat} {v : Value} {X : List (En × Ad)} (hX : Bx V g3 #[v] 22) (hO : Rowee V B v X.reverse) (hB : B ≤ V.heap.size) (hl : X.length < 1000000000000000) : Calls Try.prog 32 #[.iface 22 v, lsV g3] V fun e w' => e = .returned (.tuple #[]) ∧ Bx w' g3 #[v] 22 ∧ Rowee w' B v (ordX X) ∧ Below B V w' := by
 have hlr : X.reverse.length = X.length := List.length_reverse
 obtain ⟨a, c, rfl, -, -⟩ := hO.cs
 rcases Nat.lt_or_ge 1 X.length with h2 | h2
 ·obtain ⟨b, rfl⟩ : ∃ b, a = some ⟨b, 0, none⟩ := by
   rcases hO.2 with ⟨e0, e1⟩ | ⟨b, cap, cur, e0, -⟩
   ·rw [hlr] at e0
    simp only [Value.slice.injEq] at e0
    omega
   ·simp only [Value.slice.injEq] at e0
    exact ⟨b, e0.1⟩
  have hne := own_box hO hX (by decide) _ rfl
  have htl : (tagX X).length = X.reverse.length := by rw [← tag_fst, List.length_map]
  have hS : SW V B b X.reverse.length c g3 (tagX X) V := ⟨htl, by rw [tag_fst]; exact hO, hX, fun e => hne e.symm, .refl _ _ _⟩
  refine (q_ss hS (by omega) (tag_inc X)).mono ?_
  rintro e w' ⟨rfl, C, hC, hS2⟩
  refine ⟨rfl, hS2.bx, ?_, hS2.but.1⟩
  have h3 := hS2.row
  rw [srt_ord X C hC] at h3
  unfold Rowee
  rw [ord_len, ← hlr]
  exact h3
 ·refine (q_ss0 V a X.reverse.length c g3 (by omega)).mono ?_
  rintro e w' ⟨rfl, hb⟩
  exact ⟨rfl, hX.below hX.lt hb, by rw [ord_one h2]; exact own_below hO hb, hb.mono hB⟩
/-- The worlds of the region that puts an entry into the row. -/
structure K5 (b0 b4 b5 b6 b7 : Bool) (V U0 U1 U2 U3 : World) : Prop where
 a : b5 = false → V = U0
 b : b5 = true → b6 = false → V = U1
 c : b6 = true → b7 = false → V = U2
 d : b7 = true → V = U3
 e : b6 = true → b5 = true
 f : b7 = true → b6 = true
 g : b6 = true → b0 = true
 h : b5 = true → b4 = true
theorem rev_step (X : List (En × Ad)) (k : Nat) (h : k < X.length) : (X.drop k).reverse = (X.drop (k + 1)).reverse ++ [X.getD k zEA] := by
 rw [List.drop_eq_getElem_cons h, List.reverse_cons, List.getD_eq_getElem?_getD, List.getElem?_eq_getElem h]
 rfl
set_option maxRecDepth 100000 in
set_option maxHeartbeats 8000000 in
theorem q_leav {w : World} {a : Option Addr} {c : Nat} {X : List (En × Ad)} (h : Xr w a X) (hl : X.length ≤ 100000) : Calls Try.prog 24 #[.slice a X.length c] w fun e w' => ∃ v, e = .returned v ∧ Rowee w' w.heap.size v (ordX X) ∧ Below w.heap.size w w' := by
 have HRNG : Hid (∀ V, Below w.heap.size w V → ∀ i, i < X.length → ∃ b off, a = some ⟨b, off, none⟩ ∧ V.rangeAt b (off + i * 41) (enp (X.getD i zEA))) := Lib.hid fun V hV i hi => by
  obtain ⟨b, off, h1, -, h2⟩ := (h.below hV).rg hi
  exact ⟨b, off, h1, h2⟩
 obtain ⟨w1, hmk, hO1, hb1⟩ := make_ee w X.length (by omega)
 have hX3 : Bx (w1.alloc (.cells #[.slice none 0 0] 22)) w1.heap.size #[.slice none 0 0] 22 := heap_alloc_last w1 _
 have hb3 : Below w1.heap.size w1 (w1.alloc (.cells #[.slice none 0 0] 22)) := (Below.refl _ w1).alloc (Nat.le_refl _) _
 obtain ⟨V2, hst, hX4, hbt⟩ := st_fld #[.slice (some ⟨w.heap.size, 0, none⟩) 0 X.length] hX3 (i := 0) (v := .slice (some ⟨w.heap.size, 0, none⟩) 0 X.length) (ty := 22) (by simp) rfl rfl (by kernel_rfl)
 have hb4 : Below w1.heap.size w1 V2 := hb3.trans hbt.1
 have hs1 := hb1.size
 obtain ⟨n, hn⟩ : ∃ n, X.length = n := ⟨_, rfl⟩
 have HSO : Hid (∀ V v, w.heap.size ≤ V.heap.size → Bx V w1.heap.size #[v] 22 → Rowee V w.heap.size v X.reverse → Calls Try.prog 32 #[.iface 22 v, lsV w1.heap.size] V fun e w' => e = .returned (.tuple #[]) ∧ Bx w' w1.heap.size #[v] 22 ∧ Rowee w' w.heap.size v (ordX X) ∧ Below w.heap.size V w') := Lib.hid fun V v hV h1 h2 => q_sortX h1 h2 hV (by omega)
 have HST : Hid (Bx V2 w1.heap.size #[.slice (some ⟨w.heap.size, 0, none⟩) 0 X.length] 22 ∧ Rowee V2 w.heap.size (.slice (some ⟨w.heap.size, 0, none⟩) 0 X.length) ((X.drop n).reverse) ∧ Below w.heap.size w V2) := Lib.hid ⟨hX4, by rw [← hn, List.drop_of_length_le (Nat.le_refl _)]; exact own_below hO1 hb4, hb1.trans (hb4.mono hs1)⟩
 have HNX := Lib.hid hn
 have HRS : Hid (∀ k, k < n → (X.drop k).reverse = (X.drop (k + 1)).reverse ++ [X.getD k zEA]) := Lib.hid fun k hk => rev_step X k (by omega)
 have HRL : Hid (∀ k, (X.drop k).reverse.length ≤ n) := Lib.hid fun k => by rw [List.length_reverse, List.length_drop]; omega
 have HRZ : Hid ((X.drop 0).reverse = X.reverse) := Lib.hid rfl
 rw [hn] at hmk hst HRNG HST hl ⊢
 have HN := Lib.hid hl
 have HG : Hid (w.heap.size ≤ w1.heap.size) := Lib.hid hs1
 clear h hn hl hO1 hb1 hX3 hb3 hX4 hbt hb4 hs1
 go_enter Try.func24, Try.ntmps24
 go_upto_region 1 with fail
 refine wl <| gz2 (.slice a n c) (.int .i64 n) ?_
 simp only [pu]
 refine gw_make (by kernel_rfl) (some 7) rfl 22 (.const (.int .i64 0)) (.tmp 6) rfl (.int .i64 0) (.int .i64 n) (.slice (some ⟨w.heap.size, 0, none⟩) 0 n) (by kernel_rfl) (by kernel_rfl) w1 hmk ?_
 simp only [pu]
 refine run_to rfl (some 3) rfl (.pointer (some ⟨w1.heap.size, 0, none⟩)) (w1.alloc (.cells #[.slice none 0 0] 22)) (by kernel_rfl) ?_
 simp only [pu]
 refine gzs rfl (hst) <| wn ?_
 clear hmk hst
 obtain ⟨g3, hg3⟩ : ∃ q, w1.heap.size = q := ⟨_, rfl⟩
 rw [hg3] at HSO HST HG
 simp only [hg3]
 have HGG := HG
 clear hg3 HG
 go_upto_region 2 with fail
 refine wl <| gz2 (.slice a n c) (.int .i64 n) <| gzw (.int .i64 ((n : Int) - 1)) (sub_i rfl n 1 (by have := HN.out; omega)) <| gz1 (.int .i64 ((n : Int) - 1)) <| wn ?_
 simp only [pu]
 go_wp2_with fail
 go_loopg [4] n (fun gg s4 wx => ∃ (k : Nat), s4 = .int .i64 ((k : Int) - 1) ∧ gg = k ∧ k ≤ n ∧ Hid (∃ v, Bx wx g3 #[v] 22 ∧ Rowee wx w.heap.size v ((X.drop k).reverse) ∧ Below w.heap.size w wx))
 case atStart => exact ⟨n, rfl, rfl, Nat.le_refl _, Lib.hid ⟨_, HST.out⟩⟩
 case round =>
  obtain ⟨k, rfl, hg, hkn, HR⟩ := hrel
  clear HST
  obtain ⟨v, hX, hO, hb⟩ := HR.out
  clear HR
  have HX := Lib.hid hX
  have HO := Lib.hid hO
  have HB := Lib.hid hb
  have HGK : Hid (gk = k) := Lib.hid hg
  clear hg
  by_cases hlt : 0 < k
  ·skip
   obtain ⟨j, rfl⟩ : ∃ j, k = j + 1 := ⟨k - 1, by omega⟩
   have HJ : Hid (j < n) := Lib.hid (by omega)
   obtain ⟨b, off, hbb, -⟩ := HRNG.out wr HB.out j HJ.out
   obtain rfl := hbb
   have HRX : Hid (∀ U, Below w.heap.size w U → U.rangeAt b (off + j * 41) (enp (X.getD j zEA))) := Lib.hid fun U hU => by
    obtain ⟨b2, off2, e2, h2⟩ := HRNG.out U hU j HJ.out
    cases e2
    exact h2
   have hXd : Bx wr.drew g3 #[v] 22 := hX
   have hOd : Rowee wr.drew w.heap.size v ((X.drop (j + 1)).reverse) := own_below hO (Below.refl _ wr).drew
   obtain ⟨v2, U2, U3, hap, hst, hX3, hO3, hb3⟩ := lv_step hXd hOd (by have := HGG.out; omega) (X.getD j zEA) (by have := HRL.out (j + 1); have := HN.out; omega)
   have hb3' : Below w.heap.size w U3 := HB.out.trans (((Below.refl _ wr).drew.mono HB.out.size).trans hb3)
   rw [← HRS.out j HJ.out] at hO3
   have HR3 : Hid (∃ v, Bx U3 g3 #[v] 22 ∧ Rowee U3 w.heap.size v ((X.drop j).reverse) ∧ Below w.heap.size w U3) := Lib.hid ⟨v2, hX3, hO3, hb3'⟩
   have hBU : Below w.heap.size w wr.drew := HB.out.trans ((Below.refl _ wr).drew.mono HB.out.size)
   have hrx := HRX.out _ hBU
   obtain ⟨x, hx⟩ : ∃ x, X.getD j zEA = x := ⟨_, rfl⟩
   rw [hx] at hap hrx
   obtain ⟨U0, hU0⟩ : ∃ U, wr.drew = U := ⟨_, rfl⟩
   obtain ⟨gB, hgB⟩ : ∃ q, U0.heap.size = q := ⟨_, rfl⟩
   rw [hU0] at hap hrx hXd hBU
   obtain ⟨U1, hU1⟩ : ∃ U, U0.alloc (.cells (enA x.1 x.2) 50) = U := ⟨_, rfl⟩
   rw [hU1, hgB] at hap
   have hX1 : Bx U1 g3 #[v] 22 := by rw [← hU1]; exact hXd.below hXd.lt ((Below.refl _ U0).alloc (Nat.le_refl _) _)
   have h0 : K5 false false false false false wr.drew U0 U1 U2 U3 := ⟨fun _ => hU0, fun h => (by cases h), fun h => (by cases h), fun h => (by cases h), fun h => (by cases h), fun h => (by cases h), fun h => (by cases h), fun h => (by cases h)⟩
   clear hX hO hb hOd hX3 hO3 hb3 hb3' hBU hx HX HO HB HRX
   go_upto_region 3 with fail
   refine wl <| gz1 (.int .i64 (((j + 1 : Nat) : Int) - 1)) <| gzb (geq_n rfl ((((j + 1 : Nat) : Int) - 1)) (0) dT) <| wn ?_
   simp only [pu]
   obtain ⟨jj, hjj⟩ : ∃ q : Int, (((j + 1 : Nat) : Int) - 1) = q := ⟨_, rfl⟩
   have HJJ : Hid (jj = (j : Int)) := Lib.hid (by omega)
   simp only [hjj]
   have hjq := HJJ.out
   subst hjq
   clear hjj
   go_upto_region 5 with fail
   refine wp_region_inv (fun listed act9 V => ∃ b0 b1 b2 b3 b4 b5 b6 b7 : Bool, listed = #[b0, b1, b2, b3, b4, b5, b6, b7] ∧ act9 = { tmps := #[.slice (some ⟨b, off, none⟩) n c, undef, .slice none 0 0, .pointer (some ⟨g3, 0, none⟩), .int .i64 j, .slice (some ⟨b, off, none⟩) n c, .int .i64 n, .slice (some ⟨w.heap.size, 0, none⟩) 0 n, .slice (some ⟨b, off, none⟩) n c, .int .i64 n, .int .i64 ((n : Int) - 1), .int .i64 j, .bool true, u13, u14, (cond b0 (v) (u15)), (cond b1 (.slice (some ⟨b, off, none⟩) n c) (u16)), (cond b2 (.int .i64 j) (u17)), (cond b3 (.pointer (some ⟨b, off + j * 41, none⟩)) (u18)), (cond b4 (.agg (enA x.1 x.2)) (u19)), (cond b5 (.slice (some ⟨gB, 0, none⟩) 1 1) (u20)), (cond b6 (v2) (u21)), undef, undef, undef, undef, undef], defers := [] } ∧ K5 b0 b4 b5 b6 b7 V U0 U1 U2 U3) (by kernel_rfl) (by kernel_rfl) ?_ ?_ ?_
   ·exact ⟨false, false, false, false, false, false, false, false, rfl, rfl, h0⟩
   ·intro i9 listed act9 V hi9 hr hJ
    obtain ⟨b0, b1, b2, b3, b4, b5, b6, b7, rfl, rfl, hF⟩ := hJ
    have hi2 : i9 < 8 := hi9
    have hi3 : i9 = 0 ∨ i9 = 1 ∨ i9 = 2 ∨ i9 = 3 ∨ i9 = 4 ∨ i9 = 5 ∨ i9 = 6 ∨ i9 = 7 := by omega
    rcases hi3 with rfl | rfl | rfl | rfl | rfl | rfl | rfl | rfl
    ·obtain rfl : b0 = false := ready_self hr
     obtain rfl : b6 = false := by cases b6; rfl; exact absurd (hF.g rfl) (by decide)
     obtain rfl : b7 = false := by cases b7; rfl; exact absurd (hF.f rfl) (by decide)
     have hcl : Bx V g3 #[v] 22 := by cases b5; rw [hF.a rfl]; exact hXd; rw [hF.b rfl rfl]; exact hX1
     refine st_load rfl (by kernel_rfl) (some 15) rfl 22 (.tmp 3) rfl ⟨g3, 0, none⟩ v (by kernel_rfl) (load_bx1 hcl) ?_
     exact ⟨true, b1, b2, b3, b4, b5, false, false, rfl, rfl, ⟨hF.a, hF.b, hF.c, hF.d, hF.e, hF.f, fun _ => rfl, hF.h⟩⟩
    ·obtain rfl : b1 = false := ready_self hr
     refine st_val rfl (by kernel_rfl) (some 16) rfl (.slice (some ⟨b, off, none⟩) n c) V (by kernel_rfl) ?_
     exact ⟨b0, true, b2, b3, b4, b5, b6, b7, rfl, rfl, hF⟩
    ·obtain rfl : b2 = false := ready_self hr
     refine st_val rfl (by kernel_rfl) (some 17) rfl (.int .i64 j) V (by kernel_rfl) ?_
     exact ⟨b0, b1, true, b3, b4, b5, b6, b7, rfl, rfl, hF⟩
    ·obtain rfl : b3 = false := ready_self hr
     obtain rfl : b1 = true := ready_dep hr 1 (by kernel_rfl)
     obtain rfl : b2 = true := ready_dep hr 2 (by kernel_rfl)
     refine st_val rfl (by kernel_rfl) (some 18) rfl (.pointer (some ⟨b, off + j * 41, none⟩)) V (idx_en b off n c j HJ.out V _ _ rfl (by kernel_rfl) (by kernel_rfl)) ?_
     exact ⟨b0, true, true, true, b4, b5, b6, b7, rfl, rfl, hF⟩
    ·obtain rfl : b4 = false := ready_self hr
     obtain rfl : b3 = true := ready_dep hr 3 (by kernel_rfl)
     obtain rfl : b5 = false := by cases b5; rfl; exact absurd (hF.h rfl) (by decide)
     obtain rfl := hF.a rfl
     refine st_load rfl (by kernel_rfl) (some 19) rfl 50 (.tmp 18) rfl ⟨b, off + j * 41, none⟩ (.agg (enA x.1 x.2)) (by kernel_rfl) (load_en hrx) ?_
     exact ⟨b0, b1, b2, true, true, false, b6, b7, rfl, rfl, ⟨hF.a, hF.b, hF.c, hF.d, hF.e, hF.f, hF.g, fun _ => rfl⟩⟩
    ·obtain rfl : b5 = false := ready_self hr
     obtain rfl : b4 = true := ready_dep hr 4 (by kernel_rfl)
     obtain rfl : b6 = false := by cases b6; rfl; exact absurd (hF.e rfl) (by decide)
     obtain rfl : b7 = false := by cases b7; rfl; exact absurd (hF.f rfl) (by decide)
     obtain rfl := hF.a rfl
     refine st_build rfl (by kernel_rfl) (some 20) rfl 22 1 #[(0, .tmp 19)] rfl #[(0, .agg (enA x.1 x.2))] (by kernel_rfl) (.slice (some ⟨gB, 0, none⟩) 1 1) U1 (by rw [← hU1, ← hgB]; exact build_ee x V) ?_
     exact ⟨b0, b1, b2, b3, true, true, false, false, rfl, rfl, ⟨fun h => (by cases h), fun _ _ => rfl, fun h => (by cases h), fun h => (by cases h), fun h => (by cases h), fun h => (by cases h), fun h => (by cases h), fun _ => rfl⟩⟩
    ·obtain rfl : b6 = false := ready_self hr
     obtain rfl : b0 = true := ready_dep hr 0 (by kernel_rfl)
     obtain rfl : b5 = true := ready_dep hr 5 (by kernel_rfl)
     obtain rfl : b7 = false := by cases b7; rfl; exact absurd (hF.f rfl) (by decide)
     obtain rfl := hF.b rfl rfl
     refine st_append rfl (by kernel_rfl) (some 21) rfl 22 rfl (.tmp 15) (.tmp 20) 22 rfl v (.slice (some ⟨gB, 0, none⟩) 1 1) v2 U2 (by kernel_rfl) (by kernel_rfl) hap ?_
     exact ⟨true, b1, b2, b3, b4, true, true, false, rfl, rfl, ⟨fun h => (by cases h), fun _ h => (by cases h), fun _ _ => rfl, fun h => (by cases h), fun _ => rfl, fun h => (by cases h), fun _ => rfl, hF.h⟩⟩
    ·obtain rfl : b7 = false := ready_self hr
     obtain rfl : b6 = true := ready_dep hr 6 (by kernel_rfl)
     obtain rfl := hF.c rfl rfl
     refine st_storeA rfl (by kernel_rfl) rfl 22 (.tmp 3) (.tmp 21) rfl (.pointer (some ⟨g3, 0, none⟩)) v2 (by kernel_rfl) (by kernel_rfl) U3 hst ?_
     exact ⟨b0, b1, b2, b3, b4, b5, true, true, rfl, rfl, ⟨fun h => absurd ((hF.e rfl).symm.trans h) (by decide), fun _ h => (by cases h), fun _ h => (by cases h), fun _ => rfl, hF.e, fun _ => rfl, hF.g, hF.h⟩⟩
   ·intro act9 V hJ
    obtain ⟨b0, b1, b2, b3, b4, b5, b6, b7, he, rfl, hF⟩ := hJ
    have he : (#[true, true, true, true, true, true, true, true] : Array Bool) = #[b0, b1, b2, b3, b4, b5, b6, b7] := he
    simp only [Array.mk.injEq, List.cons.injEq, and_true] at he
    obtain ⟨rfl, rfl, rfl, rfl, rfl, rfl, rfl, rfl⟩ := he
    simp only [cond_true]
    obtain rfl := hF.d rfl
    clear h0 hF hap hst hrx hXd hX1 hU0 hU1 hgB
    go_upto_region 4 with fail
    refine wl <| gz1 (.int .i64 j) <| gzw (.int .i64 ((j : Int) - 1)) (sub_i rfl j 1 (by have := HN.out; have := HJ.out; omega)) <| gz1 (.int .i64 ((j : Int) - 1)) <| wn ?_
    simp only [pu]
    go_wp2_with fail
    go_roundg j
    case measure => have := HGK.out; omega
    case rel => exact ⟨j, rfl, rfl, by have := HJ.out; omega, HR3⟩
  ·skip
   obtain rfl : k = 0 := by omega
   have hOr : Rowee wr w.heap.size v X.reverse := by rw [← HRZ.out]; exact hO
   have hso := HSO.out wr v HB.out.size hX hOr
   clear hOr hO hb HO
   go_upto_region 3 with fail
   refine wl <| gz1 (.int .i64 (((0 : Nat) : Int) - 1)) <| gzb (geq_n rfl ((((0 : Nat) : Int) - 1)) (0) dF) <| wn ?_
   simp only [pu]
   go_upto_region 6 with fail
   refine wl <| gzl rfl ⟨g3, 0, none⟩ (v) (load_bx1 hX) <| gz2 (.iface 22 v) (lsV g3) <| gzc (.tuple #[]) (fun w' => Bx w' g3 #[v] 22 ∧ Rowee w' w.heap.size v (ordX X) ∧ Below w.heap.size wr w') (hso) (fun V4 hV4 => ?_)
   simp only [pu]
   apply wpList_nil
   obtain ⟨hX4, hO4, hb4⟩ := hV4
   have HE : Hid (Rowee V4 w.heap.size v (ordX X) ∧ Below w.heap.size w V4) := Lib.hid ⟨hO4, HB.out.trans hb4⟩
   clear hso hX hO4 hb4 HX HB
   go_upto_region 7 with fail
   refine wl <| gzl rfl ⟨g3, 0, none⟩ (v) (load_bx1 hX4) <| gz1 (v) <| wn ?_
   simp only [pu]
   clear hX4
   go_wp2_with fail
   go_ret
   exact ⟨v, rfl, HE.out⟩
end Go.Proofs.Ytgkckblcekbafaa
