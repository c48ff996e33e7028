/-
 EvictOrders' first form: contracts up to the reach of a reading.
-/
import Derived.Test.YtgkckblcekbafaaRO
import Derived.Test.YtgkckblcekbafaaWK
namespace Go.Proofs.Ytgkckblcekbafaa.Bg
attribute [local irreducible] wpList wpQuiet
open Go.RowKit
set_option maxRecDepth 100000
set_option linter.unusedSimpArgs false
set_option linter.unusedVariables false

section
variable {P : Program} {t e s bytes : Nat} {z : Value}
theorem append_cs (hu : P.underlying t = some (.slice e)) (hinfo : (P.info? e).map (fun i => (i.zero, i.size, i.bytes)) = some (some z, s, bytes)) (hzs : z.cells.size = s) (hs : 0 < s)
    {w : World} {B n m : Nat} {v : Value} {xs : List Value} (hO : w.ownsRow B e s v n xs) (pa : Option Addr) (cp : Nat) (ys : List Value) (hP : Cs w pa ys) (hl : ys.length = m * s) (h1 : ∀ u ∈ ys, u.oneCell' = true) (hB : B ≤ w.heap.size) (hn : n + m ≤ 9223372036854775807) (hm : (n + m) * bytes ≤ 140737488355328) :
    ∃ v' w', (Builtin.append_ #[t, t] t #[v, .slice pa m cp]).run P w = .ok v' w' ∧ w'.ownsRow B e s v' (n + m) (xs ++ ys) ∧ Below B w w' ∧ w.grownBy w' v.ownBlock := by
  obtain ⟨i0, hi, hz0, hz1, hz2⟩ := info_parts hinfo
  by_cases hy : ys = []
  · subst hy
    obtain rfl : m = 0 := by
      rcases Nat.eq_zero_or_pos m with h | h
      · exact h
      · have := Nat.mul_pos h hs
        rw [← hl] at this
        simp at this
    cases pa with
    | none =>
      refine ⟨v, w, ?_, by simpa using hO, Below.refl _ _, World.grownBy.refl w _⟩
      rcases hO.2 with ⟨rfl, h0⟩ | ⟨g, cap, cur, rfl, _, _, hnc, _⟩
      · simp [Builtin.append_, run_underlying hu, sizeOf, typeInfo, hi, Builtin.lenOf, Builtin.firstCells]
      · simp [Builtin.append_, run_underlying hu, sizeOf, typeInfo, hi, Builtin.lenOf, Builtin.firstCells, hnc, storeCells]
    | some x =>
      obtain ⟨v', w', hr, h2, h3, -, -⟩ := run_append_own_at (P := P) w B t t e i0 z s bytes hu hi hz0 hz1 hz2 hzs hs v n xs hO x 0 cp [] (by simp) (fun j u h => by simp at h) (by simp) (by unfold maxLen; omega) hm hB
      exact ⟨v', w', hr, h2, (Below.refl _ w).grown h3 hB (fun j hj => (hO.lt j hj).1), h3⟩
  · obtain ⟨y, hy0⟩ : ∃ y, ys[0]? = some y := by
      cases ys with
      | nil => exact absurd rfl hy
      | cons y r => exact ⟨y, rfl⟩
    obtain ⟨b, off, rfl, -⟩ := hP 0 y hy0
    have hcells : ∀ j u, ys[j]? = some u → w.cell? ((⟨b, off, none⟩ : Addr).add j) = some u := fun j u hu => by
      obtain ⟨b2, off2, e2, -, hc⟩ := hP j u hu
      simp only [Option.some.injEq, Addr.mk.injEq, and_true] at e2
      obtain ⟨rfl, rfl⟩ := e2
      rw [Addr.add_mid]
      exact hc
    obtain ⟨v', w', hr, h2, h3, -, -⟩ := run_append_own_at (P := P) w B t t e i0 z s bytes hu hi hz0 hz1 hz2 hzs hs v n xs hO ⟨b, off, none⟩ m cp ys hl hcells h1 (by unfold maxLen; omega) hm hB
    exact ⟨v', w', hr, h2, (Below.refl _ w).grown h3 hB (fun j hj => (hO.lt j hj).1), h3⟩
theorem app_at (hu : P.underlying t = some (.slice e)) (hinfo : (P.info? e).map (fun i => (i.zero, i.size, i.bytes)) = some (some z, s, bytes)) (hzs : z.cells.size = s) (hs : 0 < s)
  {w : World} {B n m : Nat} {v : Value} {xs : List Value} (hO : w.ownsRow B e s v n xs) (pa : Option Addr) (cp : Nat) (ys : List Value) (hP : Cs w pa ys) (hl : ys.length = m * s) (h1 : ∀ u ∈ ys, u.oneCell' = true) (hB : B ≤ w.heap.size) (hn : n + m ≤ 9223372036854775807) (hm : (n + m) * bytes ≤ 140737488355328) :
  ∃ v' w', (Builtin.append_ #[t, t] t #[v, .slice pa m cp]).run P w = .ok v' w' ∧ w'.ownsRow B e s v' (n + m) (xs ++ ys) ∧ Below B w w' ∧ w.grownBy w' v.ownBlock ∧ (v'.ownBlock = v.ownBlock ∨ v'.ownBlock = some w.heap.size) := by
 obtain ⟨i0, hi, hz0, hz1, hz2⟩ := info_parts hinfo
 by_cases hy : ys = []
 ·subst hy
  obtain rfl : m = 0 := by
   rcases Nat.eq_zero_or_pos m with h | h
   ·exact h
   ·have := Nat.mul_pos h hs
    rw [← hl] at this
    simp at this
  cases pa with
  | none =>
   refine ⟨v, w, ?_, by simpa using hO, Below.refl _ _, World.grownBy.refl w _, .inl rfl⟩
   rcases hO.2 with ⟨rfl, h0⟩ | ⟨g, cap, cur, rfl, _, _, hnc, _⟩
   ·simp [Builtin.append_, run_underlying hu, sizeOf, typeInfo, hi, Builtin.lenOf, Builtin.firstCells]
   ·simp [Builtin.append_, run_underlying hu, sizeOf, typeInfo, hi, Builtin.lenOf, Builtin.firstCells, hnc, storeCells]
  | some x =>
   obtain ⟨v', w', hr, h2, h3, -, h4⟩ := run_append_own_at (P := P) w B t t e i0 z s bytes hu hi hz0 hz1 hz2 hzs hs v n xs hO x 0 cp [] (by simp) (fun j u h => by simp at h) (by simp) (by unfold maxLen; omega) hm hB
   exact ⟨v', w', hr, h2, (Below.refl _ w).grown h3 hB (fun j hj => (hO.lt j hj).1), h3, h4⟩
 ·obtain ⟨y, hy0⟩ : ∃ y, ys[0]? = some y := by
   cases ys with
   | nil => exact absurd rfl hy
   | cons y r => exact ⟨y, rfl⟩
  obtain ⟨b, off, rfl, -⟩ := hP 0 y hy0
  have hcells : ∀ j u, ys[j]? = some u → w.cell? ((⟨b, off, none⟩ : Addr).add j) = some u := fun j u hu => by
   obtain ⟨b2, off2, e2, -, hc⟩ := hP j u hu
   simp only [Option.some.injEq, Addr.mk.injEq, and_true] at e2
   obtain ⟨rfl, rfl⟩ := e2
   rw [Addr.add_mid]
   exact hc
  obtain ⟨v', w', hr, h2, h3, -, h4⟩ := run_append_own_at (P := P) w B t t e i0 z s bytes hu hi hz0 hz1 hz2 hzs hs v n xs hO ⟨b, off, none⟩ m cp ys hl hcells h1 (by unfold maxLen; omega) hm hB
  exact ⟨v', w', hr, h2, (Below.refl _ w).grown h3 hB (fun j hj => (hO.lt j hj).1), h3, h4⟩
end
theorem app_by {w : World} {a : Option Addr} {c : Nat} {L : List Int} (h : Sl w a c L) (hl : L.length ≤ 140737488355328) : ∃ a2 c2 V, (Builtin.append_ #[48, 48] 48 #[.slice none 0 0, .slice a L.length c]).run Try.prog w = .ok (.slice a2 L.length c2) V ∧ V.ownsRow w.heap.size 5 1 (.slice a2 L.length c2) L.length (bcells L) ∧ Below w.heap.size w V := by
 obtain ⟨v, V, h1, h2, h3, -⟩ := append_cs (P := Try.prog) (t := 48) (m := L.length) (B := w.heap.size) (by kernel_rfl) info5 (by kernel_rfl) (by omega) (World.ownsRow_nil _ _ _ _) a c (bcells L) (sl_cs h) (by simp [bcells]) (fun u hu => by
  obtain ⟨x, -, rfl⟩ := List.mem_map.1 hu
  rfl) (Nat.le_refl _) (by omega) (by omega)
 rw [Nat.zero_add, List.nil_append] at h2
 obtain ⟨a2, c2, rfl, -, -⟩ := own_cs h2
 exact ⟨a2, c2, V, h1, h2, h3⟩
theorem app_is {w : World} {a : Option Addr} {c : Nat} {L : List Int} (h : Cs w a (icells L)) (hl : L.length * 8 ≤ 140737488355328) : ∃ a2 c2 V, (Builtin.append_ #[23, 23] 23 #[.slice none 0 0, .slice a L.length c]).run Try.prog w = .ok (.slice a2 L.length c2) V ∧ V.ownsRow w.heap.size 3 1 (.slice a2 L.length c2) L.length (icells L) ∧ Below w.heap.size w V := by
 obtain ⟨v, V, h1, h2, h3, -⟩ := append_cs (P := Try.prog) (t := 23) (m := L.length) (B := w.heap.size) (by kernel_rfl) infoI (by kernel_rfl) (by omega) (World.ownsRow_nil _ _ _ _) a c (icells L) h (by simp [icells]) (icells_one L) (Nat.le_refl _) (by omega) (by omega)
 rw [Nat.zero_add, List.nil_append] at h2
 obtain ⟨a2, c2, rfl, -, -⟩ := own_cs h2
 exact ⟨a2, c2, V, h1, h2, h3⟩
theorem app_ee {w : World} {B : Nat} {v : Value} {A : List (En × Ad)} (h : Rowee w B v A) (hB : B ≤ w.heap.size) (pa : Option Addr) (n cp : Nat) (M : List (En × Ad)) (hM : Cs w pa (ens M)) (hn : M.length = n) (hl : A.length + n ≤ 977343669134) :
    ∃ v' w', (Builtin.append_ #[22, 22] 22 #[v, .slice pa n cp]).run Try.prog w = .ok v' w' ∧ Rowee w' B v' (A ++ M) ∧ Below B w w' ∧ w.grownBy w' v.ownBlock ∧ (v'.ownBlock = v.ownBlock ∨ v'.ownBlock = some w.heap.size) := by
  subst hn
  obtain ⟨v', w', h1, h2, h3⟩ := app_at (P := Try.prog) (t := 22) (m := M.length) Try.underlying22 infoEe (by kernel_rfl) (by omega) h pa cp (ens M) hM (ens_len M) (ens_one M) hB (by omega) (by omega)
  refine ⟨v', w', h1, ?_, h3⟩
  unfold Rowee
  rw [ens_app, List.length_append]
  exact h2
theorem Row.app {V0 V : World} {x : Value} {L : List (En × Ad)} (h : Row V0 V x L) (hV : V0.heap.size ≤ V.heap.size) (pa : Option Addr) (m cp : Nat) (P : List (En × Ad)) (hP : Cs V pa (ens P)) (hm : P.length = m) (hl : L.length + m ≤ 977343669134) :
    ∃ v V2, (Builtin.append_ #[22, 22] 22 #[x, .slice pa m cp]).run Try.prog V = .ok v V2 ∧ Row V0 V2 v (L ++ P) ∧ Below V0.heap.size V V2 ∧ V.grownBy V2 x.ownBlock ∧ (v.ownBlock = x.ownBlock ∨ v.ownBlock = some V.heap.size) := app_ee h hV pa m cp P hP hm hl
theorem add_one {ρ : Operand → Value} {o : Oper} {x : Operand} (ho : o.op = .binOp .add 3 x (.const (.int .i64 1)) 3) (m : Nat) (hm : m ≤ 1000000000000000) (hx : ρ x = .int .i64 m) (w : World) (hρ : ρ (.const (.int .i64 1)) = .int .i64 1 := by rfl) : (execOp ρ o).run Try.prog w = .ok (.value (.int .i64 (m + 1 : Nat))) w := by
  unfold execOp
  simp only [ho, hx, hρ]
  simp [go_sem]
  rw [IntKind.wrap_i64]
  omega
set_option maxRecDepth 100000 in
set_option maxHeartbeats 8000000 in
theorem same_ints {w : World} {a a2 : Option Addr} {c c2 : Nat} {L : List Int} (h1 : Cs w a (icells L)) (h2 : Cs w a2 (icells L)) (hl : L.length ≤ 1000000000000000) : Calls Try.prog 31 #[.slice a L.length c, .slice a2 L.length c2] w fun e w' => e = .returned (.bool true) ∧ Below w.heap.size w w' := by
 have HA : Hid (∀ V, Below w.heap.size w V → ∀ i, i < L.length → ∃ b off b2 off2, a = some ⟨b, off, none⟩ ∧ a2 = some ⟨b2, off2, none⟩ ∧ V.cell? ⟨b, off + i, none⟩ = some (.int .i64 (L.getD i 0)) ∧ V.cell? ⟨b2, off2 + i, none⟩ = some (.int .i64 (L.getD i 0))) := Lib.hid fun V hV i hi => by
  obtain ⟨b, off, e1, -, c1⟩ := int_at (h1.below hV) hi
  obtain ⟨b2, off2, e2, -, c2⟩ := int_at (h2.below hV) hi
  exact ⟨b, off, b2, off2, e1, e2, c1, c2⟩
 obtain ⟨n, hn⟩ : ∃ n, L.length = n := ⟨_, rfl⟩
 rw [hn] at HA hl ⊢
 have HL := Lib.hid hl
 clear h1 h2 hn hl
 go_enter Try.func31, Try.ntmps31
 go_upto_region 1 with fail
 refine wl <| gz4 (.slice a n c) (.int .i64 n) (.slice a2 n c2) (.int .i64 n) <| gzb (neq_n rfl (n) (n) (decide_eq_false (fun h => h rfl))) <| wn ?_
 simp only [pu]
 go_upto_region 3 with fail
 refine wl <| gz3 (.slice a n c) (.int .i64 n) (.int .i64 0) <| wn ?_
 simp only [pu]
 go_wp2_with fail
 go_loopg [13] n (fun gg s13 wx => ∃ (i : Nat), s13 = .int .i64 i ∧ i ≤ n ∧ gg + i = n ∧ Hid (Below w.heap.size w wx))
 case atStart => exact ⟨0, rfl, by omega, by omega, Lib.hid (Below.refl _ _)⟩
 case round =>
  obtain ⟨i, rfl, hin, hg, HR⟩ := hrel
  have HGK : Hid (gk + i = n) := Lib.hid hg
  clear hg
  by_cases hlt : i < n
  ·skip
   obtain ⟨b, off, b2, off2, hq1, hq2, hc1, hc2⟩ := HA.out wr HR.out i hlt
   obtain rfl := hq1
   obtain rfl := hq2
   generalize L.getD i 0 = v at *
   go_upto_region 4 with fail
   refine wl <| gzb (lss_n rfl (i) (n) dT) <| wn ?_
   simp only [pu]
   go_upto_region 5 with fail
   refine wl <| gz2 (.int .i64 i) (.int .i64 i) <| wn ?_
   simp only [pu]
   go_upto_region 6 with fail
   refine wp_region_class (C := fun U => Below wr.heap.size wr U) (by kernel_rfl) (by kernel_rfl) ((Below.refl _ wr).drew) ?_
   refine gy (.slice (some ⟨b, off, none⟩) n c) <| gy (.int .i64 i) <| gyv (.pointer (some ⟨b, off + i, none⟩)) (fun U hU => idx_int b off n c i hlt U _ _ rfl (by kernel_rfl) (by kernel_rfl)) <|
     gyl rfl ⟨b, off + i, none⟩ (.int .i64 v) (fun U hU => load_cell ((hU.cell (p := ⟨b, off + i, none⟩) (World.block_lt_of_cell? wr _ hc1)).trans hc1) (by kernel_rfl)) <| gy (.slice (some ⟨b2, off2, none⟩) n c2) <| gy (.int .i64 i) <|
     gyv (.pointer (some ⟨b2, off2 + i, none⟩)) (fun U hU => idx_int b2 off2 n c2 i hlt U _ _ rfl (by kernel_rfl) (by kernel_rfl)) <|
     gyl rfl ⟨b2, off2 + i, none⟩ (.int .i64 v) (fun U hU => load_cell ((hU.cell (p := ⟨b2, off2 + i, none⟩) (World.block_lt_of_cell? wr _ hc2)).trans hc2) (by kernel_rfl)) <| gyv (.bool false) (fun U hU => neq_n rfl (v) (v) (decide_eq_false (fun h => h rfl)) (by kernel_rfl) (by kernel_rfl) U) ?_
   simp only [pu]
   apply wpQuiet_nil
   intro V3 hV3
   have HR2 := Lib.hid (HR.out.trans (hV3.mono HR.out.size))
   clear hV3 hc1 hc2 HR
   go_upto_region 8 with fail
   refine wl <| gzv (.int .i64 (i + 1 : Nat)) (add_one rfl i (by have := HL.out; omega) (by kernel_rfl) _) <| gz1 (.int .i64 (i + 1 : Nat)) <| wn ?_
   simp only [pu]
   go_wp2_with fail
   go_roundg (n - (i + 1))
   case measure => have := HGK.out; omega
   case rel => exact ⟨i + 1, rfl, by omega, by omega, HR2⟩
  ·skip
   obtain rfl : i = n := by omega
   go_upto_region 4 with fail
   refine wl <| gzb (lss_n rfl (i) (i) dF) <| wn ?_
   simp only [pu]
   go_wp2_with fail
   go_ret
   exact ⟨rfl, HR.out⟩
def EnB (e : En) : Prop := e.raw.length ≤ 1000000000000000 ∧ e.prs.length ≤ 1000000000000000
set_option maxRecDepth 100000 in
set_option maxHeartbeats 8000000 in
theorem r_same {w : World} {e : En} {d d2 : Ad} (h1 : EnI w e d) (h2 : EnI w e d2) (hE : EnB e) : Calls Try.prog 23 #[.agg (enA e d), .agg (enA e d2)] w fun r w' => r = .returned (.bool true) ∧ Below w.heap.size w w' := by
 have hX2 : Bx (w.alloc (.cells (enA e d) 50)) w.heap.size (enA e d) 50 := heap_alloc_last w _
 have hs1 : (w.alloc (.cells (enA e d) 50)).heap.size = w.heap.size + 1 := by simp
 have hb1 : Below w.heap.size w (w.alloc (.cells (enA e d) 50)) := (Below.refl _ w).alloc (Nat.le_refl _) _
 obtain ⟨W1, hW1⟩ : ∃ V, w.alloc (.cells (enA e d) 50) = V := ⟨_, rfl⟩
 rw [hW1] at hX2 hs1 hb1
 have hb0 : Below w.heap.size w (W1.alloc (.cells (enA e d2) 50)) := hb1.alloc hb1.size _
 have hX20 : Bx (W1.alloc (.cells (enA e d2) 50)) w.heap.size (enA e d) 50 := hX2.below hX2.lt ((Below.refl _ W1).alloc (Nat.le_refl _) _)
 have hX30 : Bx (W1.alloc (.cells (enA e d2) 50)) W1.heap.size (enA e d2) 50 := heap_alloc_last W1 _
 obtain ⟨W, hW⟩ : ∃ V, W1.alloc (.cells (enA e d2) 50) = V := ⟨_, rfl⟩
 rw [hW] at hX20 hX30 hb0
 rw [hs1] at hX30
 obtain ⟨g2, hg2⟩ : ∃ g, w.heap.size = g := ⟨_, rfl⟩
 obtain ⟨g3, hg3⟩ : ∃ g, g2 + 1 = g := ⟨_, rfl⟩
 rw [show w.heap.size + 1 = g3 by omega] at hX30
 rw [hg2] at hX20
 have hg4 : W1.heap.size = g3 := by omega
 have HB := Lib.hid hb0
 have hI1 := h1.below hb0
 have hI2 := h2.below hb0
 have CB := same_true d.ra d.rc d2.ra d2.rc e.raw W hI1.r hI2.r
 have CI := same_ints (c := d.pc) (c2 := d2.pc) hI1.p hI2.p (by have := hE.2; omega)
 have HW1 := Lib.hid hW1
 have HW := Lib.hid hW
 have HG2 := Lib.hid hg2
 have HG3 := Lib.hid hg3
 clear h1 h2 hE hX2 hs1 hb1 hb0 hg2 hg3 hI1 hI2 hW1 hW hg4
 go_enter Try.func23, Try.ntmps23
 go_upto_region 1 with fail
 rw [HW1.out, HW.out]
 rw [HG2.out, HG3.out]
 refine wl <| gz1 (.pointer (some ⟨g2, 0, none⟩)) <| gzl rfl ⟨g2, 0, none⟩ (.agg (kcA e.k)) (load_ky (bx_range hX20)) <| gz1 (.pointer (some ⟨g3, 0, none⟩)) <| gzl rfl ⟨g3, 0, none⟩ (.agg (kcA e.k)) (load_ky (bx_range hX30)) <|
  gzw (.bool true) (eql_ky rfl e.k) <| gz2 (.bool true) (.pointer (some ⟨g2, 32, none⟩)) <| gzl rfl ⟨g2, 32, none⟩ (.slice d.ra e.raw.length d.rc) (rg_cell (bx_range hX20) (j := 32) rfl (by kernel_rfl)) <| gz1 (.pointer (some ⟨g3, 32, none⟩)) <|
  gzl rfl ⟨g3, 32, none⟩ (.slice d2.ra e.raw.length d2.rc) (rg_cell (bx_range hX30) (j := 32) rfl (by kernel_rfl)) <| gzc (.bool true) (fun w' => W = w') (CB) (fun V9 hV9 => ?_)
 subst hV9
 simp only [pu]
 refine gz3 (.bool true) (.bool true) (.pointer (some ⟨g2, 33, none⟩)) <| gzl rfl ⟨g2, 33, none⟩ (.string e.snd) (rg_cell (bx_range hX20) (j := 33) rfl (by kernel_rfl)) <| gz1 (.pointer (some ⟨g3, 33, none⟩)) <|
  gzl rfl ⟨g3, 33, none⟩ (.string e.snd) (rg_cell (bx_range hX30) (j := 33) rfl (by kernel_rfl)) <| gzw (.bool true) (eql_s rfl e.snd e.snd (str_self _)) <| gz3 (.bool true) (.bool true) (.pointer (some ⟨g2, 34, none⟩)) <|
  gzl rfl ⟨g2, 34, none⟩ (.int .u64 e.sq) (rg_cell (bx_range hX20) (j := 34) rfl (by kernel_rfl)) <| gz1 (.pointer (some ⟨g3, 34, none⟩)) <| gzl rfl ⟨g3, 34, none⟩ (.int .u64 e.sq) (rg_cell (bx_range hX30) (j := 34) rfl (by kernel_rfl)) <|
  gzb (eql_w rfl e.sq e.sq (decide_eq_true rfl)) <| gz3 (.bool true) (.bool true) (.pointer (some ⟨g2, 35, none⟩)) <| gzl rfl ⟨g2, 35, none⟩ (.int .u64 e.gas) (rg_cell (bx_range hX20) (j := 35) rfl (by kernel_rfl)) <|
  gz1 (.pointer (some ⟨g3, 35, none⟩)) <| gzl rfl ⟨g3, 35, none⟩ (.int .u64 e.gas) (rg_cell (bx_range hX30) (j := 35) rfl (by kernel_rfl)) <| gzb (eql_w rfl e.gas e.gas (decide_eq_true rfl)) <|
  gz3 (.bool true) (.bool true) (.pointer (some ⟨g2, 36, none⟩)) <| gzl rfl ⟨g2, 36, none⟩ (.int .u64 e.pri) (rg_cell (bx_range hX20) (j := 36) rfl (by kernel_rfl)) <| gz1 (.pointer (some ⟨g3, 36, none⟩)) <|
  gzl rfl ⟨g3, 36, none⟩ (.int .u64 e.pri) (rg_cell (bx_range hX30) (j := 36) rfl (by kernel_rfl)) <| gzb (eql_w rfl e.pri e.pri (decide_eq_true rfl)) <| gz3 (.bool true) (.bool true) (.pointer (some ⟨g2, 37, none⟩)) <|
  gzl rfl ⟨g2, 37, none⟩ (.int .i64 e.ht) (rg_cell (bx_range hX20) (j := 37) rfl (by kernel_rfl)) <| gz1 (.pointer (some ⟨g3, 37, none⟩)) <| gzl rfl ⟨g3, 37, none⟩ (.int .i64 e.ht) (rg_cell (bx_range hX30) (j := 37) rfl (by kernel_rfl)) <|
  gzb (eql_n rfl e.ht e.ht (decide_eq_true rfl)) <| gz3 (.bool true) (.bool true) (.pointer (some ⟨g2, 38, none⟩)) <| gzl rfl ⟨g2, 38, none⟩ (.int .i64 e.tm) (rg_cell (bx_range hX20) (j := 38) rfl (by kernel_rfl)) <|
  gz1 (.pointer (some ⟨g3, 38, none⟩)) <| gzl rfl ⟨g3, 38, none⟩ (.int .i64 e.tm) (rg_cell (bx_range hX30) (j := 38) rfl (by kernel_rfl)) <| gzb (eql_n rfl e.tm e.tm (decide_eq_true rfl)) <|
  gz3 (.bool true) (.bool true) (.pointer (some ⟨g2, 39, none⟩)) <| gzl rfl ⟨g2, 39, none⟩ (.int .i64 e.od) (rg_cell (bx_range hX20) (j := 39) rfl (by kernel_rfl)) <| gz1 (.pointer (some ⟨g3, 39, none⟩)) <|
  gzl rfl ⟨g3, 39, none⟩ (.int .i64 e.od) (rg_cell (bx_range hX30) (j := 39) rfl (by kernel_rfl)) <| gzb (eql_n rfl e.od e.od (decide_eq_true rfl)) <| gz3 (.bool true) (.bool true) (.pointer (some ⟨g2, 40, none⟩)) <|
  gzl rfl ⟨g2, 40, none⟩ (.slice d.pa e.prs.length d.pc) (rg_cell (bx_range hX20) (j := 40) rfl (by kernel_rfl)) <| gz1 (.pointer (some ⟨g3, 40, none⟩)) <| gzl rfl ⟨g3, 40, none⟩ (.slice d2.pa e.prs.length d2.pc) (rg_cell (bx_range hX30) (j := 40) rfl (by kernel_rfl)) <|
  gzc (.bool true) (fun w' => Below W.heap.size W w') (CI) (fun V2 hV2 => ?_)
 simp only [pu]
 refine gz2 (.bool true) (.bool true) <| wn ?_
 simp only [pu]
 have HE := HB.out.trans (hV2.mono HB.out.size)
 go_wp2_with fail
 go_ret
 exact ⟨rfl, HE⟩
def EBs (L : List En) : Prop := ∀ i, i < L.length → EnB (L.getD i zEn)
set_option maxRecDepth 100000 in
set_option maxHeartbeats 8000000 in
theorem same_ents {w : World} {a a2 : Option Addr} {c c2 : Nat} {X Y : List (En × Ad)} (h : Xr w a X) (h2 : Xr w a2 Y) (he : lE X = lE Y) (hl : X.length ≤ 1000000000000000) (hB : EBs (lE X)) : Calls Try.prog 12 #[.slice a X.length c, .slice a2 Y.length c2] w fun e w' => e = .returned (.bool true) ∧ Below w.heap.size w w' := by
 have hxy : X.length = Y.length := by rw [← lE_len X, he, lE_len]
 have HRN : Hid (∀ V, Below w.heap.size w V → ∀ i, i < X.length → ∃ b off b2 off2, a = some ⟨b, off, none⟩ ∧ a2 = some ⟨b2, off2, none⟩ ∧ V.rangeAt b (off + i * 41) (enp (X.getD i zEA)) ∧ V.rangeAt b2 (off2 + i * 41) (enp (Y.getD i zEA)) ∧
   (X.getD i zEA).1 = (Y.getD i zEA).1 ∧ EnB (X.getD i zEA).1 ∧ EnI V (X.getD i zEA).1 (X.getD i zEA).2 ∧ EnI V (Y.getD i zEA).1 (Y.getD i zEA).2) := Lib.hid fun V hV i hi => by
  obtain ⟨b, off, h1, -, h3⟩ := (h.below hV).rg hi
  obtain ⟨b2, off2, h4, -, h5⟩ := (h2.below hV).rg (i := i) (by omega)
  have e1 := lE_at X i hi
  have e2 := lE_at Y i (by omega)
  have e3 := hB i (by rw [lE_len]; exact hi)
  rw [e1] at e3
  exact ⟨b, off, b2, off2, h1, h4, h3, h5, by rw [← e1, ← e2, he], e3, (h.below hV).en i hi, (h2.below hV).en i (by omega)⟩
 obtain ⟨n, hn⟩ : ∃ n, X.length = n := ⟨_, rfl⟩
 rw [← hxy]
 rw [hn] at HRN hl ⊢
 have HN := Lib.hid hl
 clear h h2 he hl hB hxy hn
 go_enter Try.func12, Try.ntmps12
 go_upto_region 1 with fail
 refine wl <| gz4 (.slice a n c) (.int .i64 n) (.slice a2 n c2) (.int .i64 n) <| gzb (neq_n rfl (n) (n) (decide_eq_false (fun h => h rfl))) <| wn ?_
 simp only [pu]
 go_upto_region 3 with fail
 refine wl <| gz3 (.slice a n c) (.int .i64 n) (.int .i64 0) <| wn ?_
 simp only [pu]
 go_wp2_with fail
 go_loopg [13] n (fun gg s13 wx => ∃ (i : Nat), s13 = .int .i64 i ∧ i ≤ n ∧ gg + i = n ∧ Hid (Below w.heap.size w wx))
 case atStart => exact ⟨0, rfl, by omega, by omega, Lib.hid (Below.refl _ _)⟩
 case round =>
  obtain ⟨i, rfl, hin, hg, HR⟩ := hrel
  have HGK : Hid (gk + i = n) := Lib.hid hg
  clear hg
  by_cases hlt : i < n
  ·skip
   obtain ⟨b, off, b2, off2, hq1, hq2, -, -, -, -, -, -⟩ := HRN.out wr HR.out i hlt
   obtain rfl := hq1
   obtain rfl := hq2
   have HRX : Hid (∀ U, Below wr.heap.size wr U → U.rangeAt b (off + i * 41) (enp (X.getD i zEA)) ∧ U.rangeAt b2 (off2 + i * 41) (enp (Y.getD i zEA)) ∧ (X.getD i zEA).1 = (Y.getD i zEA).1 ∧ EnB (X.getD i zEA).1 ∧ EnI U (X.getD i zEA).1 (X.getD i zEA).2 ∧ EnI U (Y.getD i zEA).1 (Y.getD i zEA).2) := Lib.hid fun U hU => by
    obtain ⟨b', off', b2', off2', e1, e2, r1, r2, r3, r4, r5, r6⟩ := HRN.out U (HR.out.trans (hU.mono HR.out.size)) i hlt
    cases e1
    cases e2
    exact ⟨r1, r2, r3, r4, r5, r6⟩
   generalize X.getD i zEA = x at *
   generalize Y.getD i zEA = y at *
   obtain ⟨e1, d1⟩ := x
   obtain ⟨e2, d2⟩ := y
   obtain rfl : e1 = e2 := (HRX.out wr (Below.refl _ _)).2.2.1
   have CS := fun U (hU : Below wr.heap.size wr U) => r_same (HRX.out U hU).2.2.2.2.1 (HRX.out U hU).2.2.2.2.2 (HRX.out U hU).2.2.2.1
   go_upto_region 4 with fail
   refine wl <| gzb (lss_n rfl (i) (n) dT) <| wn ?_
   simp only [pu]
   go_upto_region 5 with fail
   refine wl <| gz2 (.int .i64 i) (.int .i64 i) <| wn ?_
   simp only [pu]
   go_upto_region 6 with fail
   refine wp_region_class (C := fun U => Below wr.heap.size wr U) (by kernel_rfl) (by kernel_rfl) ((Below.refl _ wr).drew) ?_
   refine gy (.slice (some ⟨b, off, none⟩) n c) <| gy (.int .i64 i) <| gyv (.pointer (some ⟨b, off + i * 41, none⟩)) (fun U hU => idx_en b off n c i hlt U _ _ rfl (by kernel_rfl) (by kernel_rfl)) <| gyl rfl ⟨b, off + i * 41, none⟩ (.agg (enA e1 d1)) (fun U hU => load_en (HRX.out U hU).1) <|
     gy (.slice (some ⟨b2, off2, none⟩) n c2) <| gy (.int .i64 i) <| gyv (.pointer (some ⟨b2, off2 + i * 41, none⟩)) (fun U hU => idx_en b2 off2 n c2 i hlt U _ _ rfl (by kernel_rfl) (by kernel_rfl)) <| gyl rfl ⟨b2, off2 + i * 41, none⟩ (.agg (enA e1 d2)) (fun U hU => load_en (HRX.out U hU).2.1) ?_
   simp only [pu]
   refine gq_call (by kernel_rfl) (some 24) rfl 23 #[.agg (enA e1 d1), .agg (enA e1 d2)] (.bool true) (fun U hU => by kernel_rfl) (fun U hU => (CS U hU).mono fun e w2 z => ⟨z.1, hU.trans (z.2.mono hU.size)⟩) ?_
   simp only [pu]
   refine gy (.bool false) ?_
   simp only [pu]
   apply wpQuiet_nil
   intro V3 hV3
   have HR2 := Lib.hid (HR.out.trans (hV3.mono HR.out.size))
   clear hV3 HR CS HRX
   go_upto_region 8 with fail
   refine wl <| gzv (.int .i64 (i + 1 : Nat)) (add_one rfl i (by have := HN.out; omega) (by kernel_rfl) _) <| gz1 (.int .i64 (i + 1 : Nat)) <| wn ?_
   simp only [pu]
   go_wp2_with fail
   go_roundg (n - (i + 1))
   case measure => have := HGK.out; omega
   case rel => exact ⟨i + 1, rfl, by omega, by omega, HR2⟩
  ·skip
   obtain rfl : i = n := by omega
   go_upto_region 4 with fail
   refine wl <| gzb (lss_n rfl (i) (i) dF) <| wn ?_
   simp only [pu]
   go_upto_region 9 with fail
   refine wl <| gz1 (.bool true) <| wn ?_
   simp only [pu]
   go_wp2_with fail
   go_ret
   exact ⟨rfl, HR.out⟩
theorem lv_step {V : World} {B g3 : Nat} {v : Value} {A : List (En × Ad)} (hX : Bx V g3 #[v] 22) (hO : Rowee V B v A) (hB : B ≤ g3) (x : En × Ad) (hl : A.length ≤ 977343669105) :
  ∃ v2 V2 V3, (Builtin.append_ #[22, 22] 22 #[v, .slice (some ⟨V.heap.size, 0, none⟩) 1 1]).run Try.prog (V.alloc (.cells (enA x.1 x.2) 50)) = .ok v2 V2 ∧ (Instr.storeAt 22 (.pointer (some ⟨g3, 0, none⟩)) v2).run Try.prog V2 = .ok () V3 ∧ Bx V3 g3 #[v2] 22 ∧ Rowee V3 B v2 (A ++ [x]) ∧ Below B V V3 := by
 have hgl := hX.lt
 have hb : Below V.heap.size V (V.alloc (.cells (enA x.1 x.2) 50)) := (Below.refl _ V).alloc (Nat.le_refl _) _
 have hc : Cs (V.alloc (.cells (enA x.1 x.2) 50)) (some ⟨V.heap.size, 0, none⟩) (ens [x]) := by
  have := Cs.block (cs := enl x.1 x.2) (t := 50) (fr := (0, 0)) (heap_alloc_last V (.cells (enA x.1 x.2) 50))
  unfold ens enp
  simpa using this
 have hO1 : Rowee (V.alloc (.cells (enA x.1 x.2) 50)) B v A := own_below hO hb
 obtain ⟨v2, V2, hr, hO2, hb2, hg2, hat2⟩ := app_ee hO1 (Nat.le_trans (by omega) hb.size) (some ⟨V.heap.size, 0, none⟩) 1 1 [x] hc rfl (by omega)
 obtain ⟨a, c, rfl, -, -⟩ := hO.cs
 have hX1 := hX.below hgl hb
 have hne := own_box hO hX (by decide)
 have hX2 : Bx V2 g3 #[.slice a A.length c] 22 := by
  have := hg2.block g3 hX1.lt (fun e => by
   unfold Value.ownBlock at e
   cases a with
   | none => simp at e
   | some y => simp at e; exact hne y rfl e.symm)
  exact this.trans hX1
 obtain ⟨a2, c2, rfl, -, -⟩ := hO2.cs
 obtain ⟨V3, hst, hX3, hbt⟩ := st_fld #[.slice a2 (A ++ [x]).length c2] hX2 (i := 0) (v := .slice a2 (A ++ [x]).length c2) (ty := 22) (by simp) rfl rfl (by kernel_rfl)
 have hne2 := own_box hO2 hX2 (by decide)
 refine ⟨_, V2, V3, hr, hst, hX3, own_same hO2 fun y hy => ?_, ?_⟩
 ·exact hbt.2 _ (hO2.lt y.block (by rw [hy]; rfl)).2 (hne2 y hy)
 ·exact (hb.mono (by omega)).trans (hb2.trans (hbt.1.mono hB))
set_option maxRecDepth 100000 in
set_option maxHeartbeats 8000000 in
theorem q_leav {w : World} {a : Option Addr} {c : Nat} {X : List (En × Ad)} (h : Xr w a X) (hl : X.length ≤ 977343669105) : Calls Try.prog 24 #[.slice a X.length c] w fun e w' => ∃ v, e = .returned v ∧ Rowee w' w.heap.size v (ordX X) ∧ Below w.heap.size w w' := by
 have HRNG : Hid (∀ V, Below w.heap.size w V → ∀ i, i < X.length → ∃ b off, a = some ⟨b, off, none⟩ ∧ V.rangeAt b (off + i * 41) (enp (X.getD i zEA))) := Lib.hid fun V hV i hi => by
  obtain ⟨b, off, h1, -, h2⟩ := (h.below hV).rg hi
  exact ⟨b, off, h1, h2⟩
 obtain ⟨w1, hmk, hO1, hb1⟩ := make_ee w X.length (by omega)
 have hX3 : Bx (w1.alloc (.cells #[.slice none 0 0] 22)) w1.heap.size #[.slice none 0 0] 22 := heap_alloc_last w1 _
 have hb3 : Below w1.heap.size w1 (w1.alloc (.cells #[.slice none 0 0] 22)) := (Below.refl _ w1).alloc (Nat.le_refl _) _
 obtain ⟨V2, hst, hX4, hbt⟩ := st_fld #[.slice (some ⟨w.heap.size, 0, none⟩) 0 X.length] hX3 (i := 0) (v := .slice (some ⟨w.heap.size, 0, none⟩) 0 X.length) (ty := 22) (by simp) rfl rfl (by kernel_rfl)
 have hb4 : Below w1.heap.size w1 V2 := hb3.trans hbt.1
 have hs1 := hb1.size
 obtain ⟨n, hn⟩ : ∃ n, X.length = n := ⟨_, rfl⟩
 have HSO : Hid (∀ V v, w.heap.size ≤ V.heap.size → Bx V w1.heap.size #[v] 22 → Rowee V w.heap.size v X.reverse → Calls Try.prog 32 #[.iface 22 v, lsV w1.heap.size] V fun e w' => e = .returned (.tuple #[]) ∧ Bx w' w1.heap.size #[v] 22 ∧ Rowee w' w.heap.size v (ordX X) ∧ Below w.heap.size V w') := Lib.hid fun V v hV h1 h2 => q_sortX h1 h2 hV (by omega)
 have HST : Hid (Bx V2 w1.heap.size #[.slice (some ⟨w.heap.size, 0, none⟩) 0 X.length] 22 ∧ Rowee V2 w.heap.size (.slice (some ⟨w.heap.size, 0, none⟩) 0 X.length) ((X.drop n).reverse) ∧ Below w.heap.size w V2) := Lib.hid ⟨hX4, by rw [← hn, List.drop_of_length_le (Nat.le_refl _)]; exact own_below hO1 hb4, hb1.trans (hb4.mono hs1)⟩
 have HNX := Lib.hid hn
 have HRS : Hid (∀ k, k < n → (X.drop k).reverse = (X.drop (k + 1)).reverse ++ [X.getD k zEA]) := Lib.hid fun k hk => rev_step X k (by omega)
 have HRL : Hid (∀ k, (X.drop k).reverse.length ≤ n) := Lib.hid fun k => by rw [List.length_reverse, List.length_drop]; omega
 have HRZ : Hid ((X.drop 0).reverse = X.reverse) := Lib.hid rfl
 rw [hn] at hmk hst HRNG HST hl ⊢
 have HN := Lib.hid hl
 have HG : Hid (w.heap.size ≤ w1.heap.size) := Lib.hid hs1
 clear h hn hl hO1 hb1 hX3 hb3 hX4 hbt hb4 hs1
 go_enter Try.func24, Try.ntmps24
 go_upto_region 1 with fail
 refine wl <| gz2 (.slice a n c) (.int .i64 n) ?_
 simp only [pu]
 refine gw_make (by kernel_rfl) (some 7) rfl 22 (.const (.int .i64 0)) (.tmp 6) rfl (.int .i64 0) (.int .i64 n) (.slice (some ⟨w.heap.size, 0, none⟩) 0 n) (by kernel_rfl) (by kernel_rfl) w1 hmk ?_
 simp only [pu]
 refine run_to rfl (some 3) rfl (.pointer (some ⟨w1.heap.size, 0, none⟩)) (w1.alloc (.cells #[.slice none 0 0] 22)) (by kernel_rfl) ?_
 simp only [pu]
 refine gzs rfl (hst) <| wn ?_
 clear hmk hst
 obtain ⟨g3, hg3⟩ : ∃ q, w1.heap.size = q := ⟨_, rfl⟩
 rw [hg3] at HSO HST HG
 simp only [hg3]
 have HGG := HG
 clear hg3 HG
 go_upto_region 2 with fail
 refine wl <| gz2 (.slice a n c) (.int .i64 n) <| gzw (.int .i64 ((n : Int) - 1)) (sub_i rfl n 1 (by have := HN.out; omega)) <| gz1 (.int .i64 ((n : Int) - 1)) <| wn ?_
 simp only [pu]
 go_wp2_with fail
 go_loopg [4] n (fun gg s4 wx => ∃ (k : Nat), s4 = .int .i64 ((k : Int) - 1) ∧ gg = k ∧ k ≤ n ∧ Hid (∃ v, Bx wx g3 #[v] 22 ∧ Rowee wx w.heap.size v ((X.drop k).reverse) ∧ Below w.heap.size w wx))
 case atStart => exact ⟨n, rfl, rfl, Nat.le_refl _, Lib.hid ⟨_, HST.out⟩⟩
 case round =>
  obtain ⟨k, rfl, hg, hkn, HR⟩ := hrel
  clear HST
  obtain ⟨v, hX, hO, hb⟩ := HR.out
  clear HR
  have HX := Lib.hid hX
  have HO := Lib.hid hO
  have HB := Lib.hid hb
  have HGK : Hid (gk = k) := Lib.hid hg
  clear hg
  by_cases hlt : 0 < k
  ·skip
   obtain ⟨j, rfl⟩ : ∃ j, k = j + 1 := ⟨k - 1, by omega⟩
   have HJ : Hid (j < n) := Lib.hid (by omega)
   obtain ⟨b, off, hbb, -⟩ := HRNG.out wr HB.out j HJ.out
   obtain rfl := hbb
   have HRX : Hid (∀ U, Below w.heap.size w U → U.rangeAt b (off + j * 41) (enp (X.getD j zEA))) := Lib.hid fun U hU => by
    obtain ⟨b2, off2, e2, h2⟩ := HRNG.out U hU j HJ.out
    cases e2
    exact h2
   have hXd : Bx wr.drew g3 #[v] 22 := hX
   have hOd : Rowee wr.drew w.heap.size v ((X.drop (j + 1)).reverse) := own_below hO (Below.refl _ wr).drew
   obtain ⟨v2, U2, U3, hap, hst, hX3, hO3, hb3⟩ := lv_step hXd hOd (by have := HGG.out; omega) (X.getD j zEA) (by have := HRL.out (j + 1); have := HN.out; omega)
   have hb3' : Below w.heap.size w U3 := HB.out.trans (((Below.refl _ wr).drew.mono HB.out.size).trans hb3)
   rw [← HRS.out j HJ.out] at hO3
   have HR3 : Hid (∃ v, Bx U3 g3 #[v] 22 ∧ Rowee U3 w.heap.size v ((X.drop j).reverse) ∧ Below w.heap.size w U3) := Lib.hid ⟨v2, hX3, hO3, hb3'⟩
   have hBU : Below w.heap.size w wr.drew := HB.out.trans ((Below.refl _ wr).drew.mono HB.out.size)
   have hrx := HRX.out _ hBU
   obtain ⟨x, hx⟩ : ∃ x, X.getD j zEA = x := ⟨_, rfl⟩
   rw [hx] at hap hrx
   obtain ⟨U0, hU0⟩ : ∃ U, wr.drew = U := ⟨_, rfl⟩
   obtain ⟨gB, hgB⟩ : ∃ q, U0.heap.size = q := ⟨_, rfl⟩
   rw [hU0] at hap hrx hXd hBU
   obtain ⟨U1, hU1⟩ : ∃ U, U0.alloc (.cells (enA x.1 x.2) 50) = U := ⟨_, rfl⟩
   rw [hU1, hgB] at hap
   have hX1 : Bx U1 g3 #[v] 22 := by rw [← hU1]; exact hXd.below hXd.lt ((Below.refl _ U0).alloc (Nat.le_refl _) _)
   have h0 : K5 false false false false false wr.drew U0 U1 U2 U3 := ⟨fun _ => hU0, fun h => (by cases h), fun h => (by cases h), fun h => (by cases h), fun h => (by cases h), fun h => (by cases h), fun h => (by cases h), fun h => (by cases h)⟩
   clear hX hO hb hOd hX3 hO3 hb3 hb3' hBU hx HX HO HB HRX
   go_upto_region 3 with fail
   refine wl <| gz1 (.int .i64 (((j + 1 : Nat) : Int) - 1)) <| gzb (geq_n rfl ((((j + 1 : Nat) : Int) - 1)) (0) dT) <| wn ?_
   simp only [pu]
   obtain ⟨jj, hjj⟩ : ∃ q : Int, (((j + 1 : Nat) : Int) - 1) = q := ⟨_, rfl⟩
   have HJJ : Hid (jj = (j : Int)) := Lib.hid (by omega)
   simp only [hjj]
   have hjq := HJJ.out
   subst hjq
   clear hjj
   go_upto_region 5 with fail
   refine wp_region_inv (fun listed act9 V => ∃ b0 b1 b2 b3 b4 b5 b6 b7 : Bool, listed = #[b0, b1, b2, b3, b4, b5, b6, b7] ∧ act9 = { tmps := #[.slice (some ⟨b, off, none⟩) n c, undef, .slice none 0 0, .pointer (some ⟨g3, 0, none⟩), .int .i64 j, .slice (some ⟨b, off, none⟩) n c, .int .i64 n, .slice (some ⟨w.heap.size, 0, none⟩) 0 n, .slice (some ⟨b, off, none⟩) n c, .int .i64 n, .int .i64 ((n : Int) - 1), .int .i64 j, .bool true, u13, u14, (cond b0 (v) (u15)), (cond b1 (.slice (some ⟨b, off, none⟩) n c) (u16)), (cond b2 (.int .i64 j) (u17)), (cond b3 (.pointer (some ⟨b, off + j * 41, none⟩)) (u18)), (cond b4 (.agg (enA x.1 x.2)) (u19)), (cond b5 (.slice (some ⟨gB, 0, none⟩) 1 1) (u20)), (cond b6 (v2) (u21)), undef, undef, undef, undef, undef], defers := [] } ∧ K5 b0 b4 b5 b6 b7 V U0 U1 U2 U3) (by kernel_rfl) (by kernel_rfl) ?_ ?_ ?_
   ·exact ⟨false, false, false, false, false, false, false, false, rfl, rfl, h0⟩
   ·intro i9 listed act9 V hi9 hr hJ
    obtain ⟨b0, b1, b2, b3, b4, b5, b6, b7, rfl, rfl, hF⟩ := hJ
    have hi2 : i9 < 8 := hi9
    have hi3 : i9 = 0 ∨ i9 = 1 ∨ i9 = 2 ∨ i9 = 3 ∨ i9 = 4 ∨ i9 = 5 ∨ i9 = 6 ∨ i9 = 7 := by omega
    rcases hi3 with rfl | rfl | rfl | rfl | rfl | rfl | rfl | rfl
    ·obtain rfl : b0 = false := ready_self hr
     obtain rfl : b6 = false := by cases b6; rfl; exact absurd (hF.g rfl) (by decide)
     obtain rfl : b7 = false := by cases b7; rfl; exact absurd (hF.f rfl) (by decide)
     have hcl : Bx V g3 #[v] 22 := by cases b5; rw [hF.a rfl]; exact hXd; rw [hF.b rfl rfl]; exact hX1
     refine st_load rfl (by kernel_rfl) (some 15) rfl 22 (.tmp 3) rfl ⟨g3, 0, none⟩ v (by kernel_rfl) (load_bx1 hcl) ?_
     exact ⟨true, b1, b2, b3, b4, b5, false, false, rfl, rfl, ⟨hF.a, hF.b, hF.c, hF.d, hF.e, hF.f, fun _ => rfl, hF.h⟩⟩
    ·obtain rfl : b1 = false := ready_self hr
     refine st_val rfl (by kernel_rfl) (some 16) rfl (.slice (some ⟨b, off, none⟩) n c) V (by kernel_rfl) ?_
     exact ⟨b0, true, b2, b3, b4, b5, b6, b7, rfl, rfl, hF⟩
    ·obtain rfl : b2 = false := ready_self hr
     refine st_val rfl (by kernel_rfl) (some 17) rfl (.int .i64 j) V (by kernel_rfl) ?_
     exact ⟨b0, b1, true, b3, b4, b5, b6, b7, rfl, rfl, hF⟩
    ·obtain rfl : b3 = false := ready_self hr
     obtain rfl : b1 = true := ready_dep hr 1 (by kernel_rfl)
     obtain rfl : b2 = true := ready_dep hr 2 (by kernel_rfl)
     refine st_val rfl (by kernel_rfl) (some 18) rfl (.pointer (some ⟨b, off + j * 41, none⟩)) V (idx_en b off n c j HJ.out V _ _ rfl (by kernel_rfl) (by kernel_rfl)) ?_
     exact ⟨b0, true, true, true, b4, b5, b6, b7, rfl, rfl, hF⟩
    ·obtain rfl : b4 = false := ready_self hr
     obtain rfl : b3 = true := ready_dep hr 3 (by kernel_rfl)
     obtain rfl : b5 = false := by cases b5; rfl; exact absurd (hF.h rfl) (by decide)
     obtain rfl := hF.a rfl
     refine st_load rfl (by kernel_rfl) (some 19) rfl 50 (.tmp 18) rfl ⟨b, off + j * 41, none⟩ (.agg (enA x.1 x.2)) (by kernel_rfl) (load_en hrx) ?_
     exact ⟨b0, b1, b2, true, true, false, b6, b7, rfl, rfl, ⟨hF.a, hF.b, hF.c, hF.d, hF.e, hF.f, hF.g, fun _ => rfl⟩⟩
    ·obtain rfl : b5 = false := ready_self hr
     obtain rfl : b4 = true := ready_dep hr 4 (by kernel_rfl)
     obtain rfl : b6 = false := by cases b6; rfl; exact absurd (hF.e rfl) (by decide)
     obtain rfl : b7 = false := by cases b7; rfl; exact absurd (hF.f rfl) (by decide)
     obtain rfl := hF.a rfl
     refine st_build rfl (by kernel_rfl) (some 20) rfl 22 1 #[(0, .tmp 19)] rfl #[(0, .agg (enA x.1 x.2))] (by kernel_rfl) (.slice (some ⟨gB, 0, none⟩) 1 1) U1 (by rw [← hU1, ← hgB]; exact build_ee x V) ?_
     exact ⟨b0, b1, b2, b3, true, true, false, false, rfl, rfl, ⟨fun h => (by cases h), fun _ _ => rfl, fun h => (by cases h), fun h => (by cases h), fun h => (by cases h), fun h => (by cases h), fun h => (by cases h), fun _ => rfl⟩⟩
    ·obtain rfl : b6 = false := ready_self hr
     obtain rfl : b0 = true := ready_dep hr 0 (by kernel_rfl)
     obtain rfl : b5 = true := ready_dep hr 5 (by kernel_rfl)
     obtain rfl : b7 = false := by cases b7; rfl; exact absurd (hF.f rfl) (by decide)
     obtain rfl := hF.b rfl rfl
     refine st_append rfl (by kernel_rfl) (some 21) rfl 22 rfl (.tmp 15) (.tmp 20) 22 rfl v (.slice (some ⟨gB, 0, none⟩) 1 1) v2 U2 (by kernel_rfl) (by kernel_rfl) hap ?_
     exact ⟨true, b1, b2, b3, b4, true, true, false, rfl, rfl, ⟨fun h => (by cases h), fun _ h => (by cases h), fun _ _ => rfl, fun h => (by cases h), fun _ => rfl, fun h => (by cases h), fun _ => rfl, hF.h⟩⟩
    ·obtain rfl : b7 = false := ready_self hr
     obtain rfl : b6 = true := ready_dep hr 6 (by kernel_rfl)
     obtain rfl := hF.c rfl rfl
     refine st_storeA rfl (by kernel_rfl) rfl 22 (.tmp 3) (.tmp 21) rfl (.pointer (some ⟨g3, 0, none⟩)) v2 (by kernel_rfl) (by kernel_rfl) U3 hst ?_
     exact ⟨b0, b1, b2, b3, b4, b5, true, true, rfl, rfl, ⟨fun h => absurd ((hF.e rfl).symm.trans h) (by decide), fun _ h => (by cases h), fun _ h => (by cases h), fun _ => rfl, hF.e, fun _ => rfl, hF.g, hF.h⟩⟩
   ·intro act9 V hJ
    obtain ⟨b0, b1, b2, b3, b4, b5, b6, b7, he, rfl, hF⟩ := hJ
    have he : (#[true, true, true, true, true, true, true, true] : Array Bool) = #[b0, b1, b2, b3, b4, b5, b6, b7] := he
    simp only [Array.mk.injEq, List.cons.injEq, and_true] at he
    obtain ⟨rfl, rfl, rfl, rfl, rfl, rfl, rfl, rfl⟩ := he
    simp only [cond_true]
    obtain rfl := hF.d rfl
    clear h0 hF hap hst hrx hXd hX1 hU0 hU1 hgB
    go_upto_region 4 with fail
    refine wl <| gz1 (.int .i64 j) <| gzw (.int .i64 ((j : Int) - 1)) (sub_i rfl j 1 (by have := HN.out; have := HJ.out; omega)) <| gz1 (.int .i64 ((j : Int) - 1)) <| wn ?_
    simp only [pu]
    go_wp2_with fail
    go_roundg j
    case measure => have := HGK.out; omega
    case rel => exact ⟨j, rfl, rfl, by have := HJ.out; omega, HR3⟩
  ·skip
   obtain rfl : k = 0 := by omega
   have hOr : Rowee wr w.heap.size v X.reverse := by rw [← HRZ.out]; exact hO
   have hso := HSO.out wr v HB.out.size hX hOr
   clear hOr hO hb HO
   go_upto_region 3 with fail
   refine wl <| gz1 (.int .i64 (((0 : Nat) : Int) - 1)) <| gzb (geq_n rfl ((((0 : Nat) : Int) - 1)) (0) dF) <| wn ?_
   simp only [pu]
   go_upto_region 6 with fail
   refine wl <| gzl rfl ⟨g3, 0, none⟩ (v) (load_bx1 hX) <| gz2 (.iface 22 v) (lsV g3) <| gzc (.tuple #[]) (fun w' => Bx w' g3 #[v] 22 ∧ Rowee w' w.heap.size v (ordX X) ∧ Below w.heap.size wr w') (hso) (fun V4 hV4 => ?_)
   simp only [pu]
   apply wpList_nil
   obtain ⟨hX4, hO4, hb4⟩ := hV4
   have HE : Hid (Rowee V4 w.heap.size v (ordX X) ∧ Below w.heap.size w V4) := Lib.hid ⟨hO4, HB.out.trans hb4⟩
   clear hso hX hO4 hb4 HX HB
   go_upto_region 7 with fail
   refine wl <| gzl rfl ⟨g3, 0, none⟩ (v) (load_bx1 hX4) <| gz1 (v) <| wn ?_
   simp only [pu]
   clear hX4
   go_wp2_with fail
   go_ret
   exact ⟨v, rfl, HE.out⟩
theorem OD9.step {w0 V : World} {b c i g5 : Nat} {O Y : List (En × Ad)} (h : OD9 w0 V b c i O Y) (hi : i < O.length) (hB : Bx V g5 (enA (O.getD i zEA).1 (O.getD i zEA).2) 50) (hg : b < g5) (hE : EnI w0 (O.getD i zEA).1 (O.getD i zEA).2)
  (hr : (O.getD i zEA).1.raw.length ≤ 140737488355328) (hp : (O.getD i zEA).1.prs.length * 8 ≤ 140737488355328) :
  ∃ a2 c2 U1 U2 a3 c3 U3 U4 Y', (Builtin.append_ #[48, 48] 48 #[.slice none 0 0, .slice (O.getD i zEA).2.ra (O.getD i zEA).1.raw.length (O.getD i zEA).2.rc]).run Try.prog V = .ok (.slice a2 (O.getD i zEA).1.raw.length c2) U1 ∧
   (Instr.storeAt 48 (.pointer (some ⟨b, 0 + i * 41 + 32, none⟩)) (.slice a2 (O.getD i zEA).1.raw.length c2)).run Try.prog U1 = .ok () U2 ∧ Bx U2 g5 (enA (O.getD i zEA).1 (O.getD i zEA).2) 50 ∧
   (Builtin.append_ #[23, 23] 23 #[.slice none 0 0, .slice (O.getD i zEA).2.pa (O.getD i zEA).1.prs.length (O.getD i zEA).2.pc]).run Try.prog U2 = .ok (.slice a3 (O.getD i zEA).1.prs.length c3) U3 ∧
   (Instr.storeAt 23 (.pointer (some ⟨b, 0 + i * 41 + 40, none⟩)) (.slice a3 (O.getD i zEA).1.prs.length c3)).run Try.prog U3 = .ok () U4 ∧ OD9 w0 U4 b c (i + 1) O Y' := by
 have hx := h.old i (Nat.le_refl _) hi
 have hge := h.ge
 have hl := h.len
 have hlt := hE.lt
 have hsm := lE_at Y i (by omega)
 generalize O.getD i zEA = x at *
 obtain ⟨e, d⟩ := x
 have hne : ¬ EB e d b := fun q => by have := hlt b q; omega
 have hI := hE.below ((Below.refl _ w0).trans (h.bel))
 obtain ⟨a2, c2, U1, hr1, ho1, hb1⟩ := app_by hI.r hr
 have h1 := h.below hb1
 have hR1 := h1.row
 rw [← hl] at hR1
 obtain ⟨cur1, hX1, -, -, -⟩ := own_row hR1
 obtain ⟨U2, hs2, hR2, hbt2⟩ := ow_fld hR1 (i := i) (j := 32) (by omega) (by omega) (v := .slice a2 e.raw.length c2) rfl (ty := 48) (by kernel_rfl) (y := (e, ⟨a2, c2, d.pa, d.pc⟩)) (by rw [hx]; kernel_rfl)
 have hB1 := hB.below hB.lt hb1
 have hB2 := hB1.but hbt2 (by omega)
 have hI2 := (hI.below hb1).but hbt2 hne
 obtain ⟨a3, c3, U3, hr3, ho3, hb3⟩ := app_is hI2.p hp
 have hR3 : Rowee U3 w0.heap.size (.slice (some ⟨b, 0, none⟩) (Y.set i (e, ⟨a2, c2, d.pa, d.pc⟩)).length c) (Y.set i (e, ⟨a2, c2, d.pa, d.pc⟩)) := by rw [List.length_set]; exact own_below hR2 hb3
 obtain ⟨cur3, hX3, -, -, -⟩ := own_row hR3
 have hgs : (Y.set i (e, ⟨a2, c2, d.pa, d.pc⟩)).getD i zEA = (e, ⟨a2, c2, d.pa, d.pc⟩) := getD_set_eq _ _ _ _ (by omega)
 obtain ⟨U4, hs4, hR4, hbt4⟩ := ow_fld hR3 (i := i) (j := 40) (by rw [List.length_set]; omega) (by omega) (v := .slice a3 e.prs.length c3) rfl (ty := 23) (by kernel_rfl) (y := (e, ⟨a2, c2, a3, c3⟩)) (by rw [hgs]; kernel_rfl)
 rw [List.set_set, List.length_set] at hR4
 have bo1 : V.ownsRow 0 50 41 (.slice none 0 0) 0 [] := World.ownsRow_nil _ _ _ _
 have b12 : Below w0.heap.size V U4 := (hb1.mono h.bel.size).trans ((hbt2.below hge.1).trans ((hb3.mono (by have := hbt2.1.size; have := hb1.size; have := h.bel.size; omega)).trans (hbt4.below hge.1)))
 have ho2 : U2.ownsRow V.heap.size 5 1 (.slice a2 e.raw.length c2) e.raw.length (bcells e.raw) := own_butq ho1 hbt2 (own_box ho1 hX1 (by decide))
 have ho4 : U4.ownsRow V.heap.size 5 1 (.slice a2 e.raw.length c2) e.raw.length (bcells e.raw) := own_butq (own_below ho2 hb3) hbt4 (own_box (own_below ho2 hb3) hX3 (by decide))
 have hp4 : U4.ownsRow U2.heap.size 3 1 (.slice a3 e.prs.length c3) e.prs.length (icells e.prs) := own_butq ho3 hbt4 (own_box ho3 hX3 (by decide))
 have hs02 : w0.heap.size ≤ U2.heap.size := by have := hbt2.1.size; have := hb1.size; have := h.bel.size; omega
 refine ⟨a2, c2, U1, U2, a3, c3, U3, U4, Y.set i (e, ⟨a2, c2, a3, c3⟩), hr1, hs2, hB2, hr3, hs4, ⟨by rw [← hl]; exact hR4, by rw [List.length_set]; exact hl, ?_, fun j q1 q2 => ?_, fun j q1 q2 => ?_, h.bel.trans b12⟩⟩
 ·rw [lE_set _ _ _ (by omega) (by rw [hx]), h.same]
 ·rcases Nat.lt_or_ge j i with q3 | q3
  ·rw [getD_set_ne _ _ _ _ _ (by omega)]
   exact enw_but ((enw_but ((h.own j q3 q2).below hb1) hX1 hbt2).below hb3) hX3 hbt4
  ·obtain rfl : j = i := by omega
   rw [getD_set_eq _ _ _ _ (by omega)]
   exact ⟨own_mono ho4 h.bel.size, own_mono hp4 hs02⟩
 ·rw [getD_set_ne _ _ _ _ _ (by omega)]
  exact h.old j (by omega) q2
set_option maxRecDepth 100000 in
set_option maxHeartbeats 8000000 in
theorem q_order {w : World} {a : Option Addr} {c : Nat} {X : List (En × Ad)} (h : Xr w a X) (hl : X.length ≤ 977343669105) (hS : ∀ x ∈ X, x.1.raw.length ≤ 140737488355328 ∧ x.1.prs.length * 8 ≤ 140737488355328) : Calls Try.prog 13 #[.slice a X.length c] w fun e w' => ∃ a2 c2 Y, e = .returned (.slice a2 X.length c2) ∧ Xr w' a2 Y ∧ Y.length = X.length ∧ lE Y = ordL (lE X) ∧ Below w.heap.size w w' := by
 have hlv := q_leav (c := c) h hl
 have HEN := Lib.hid (ord_en h)
 have HSZ : Hid (∀ i, i < (ordX X).length → ((ordX X).getD i zEA).1.raw.length ≤ 140737488355328 ∧ ((ordX X).getD i zEA).1.prs.length * 8 ≤ 140737488355328) := Lib.hid fun i hi => at_of hS i hi
 have hol := ord_len X
 have HLE := Lib.hid (lE_ord X)
 obtain ⟨O, hO⟩ : ∃ O, ordX X = O := ⟨_, rfl⟩
 obtain ⟨n, hn⟩ : ∃ n, X.length = n := ⟨_, rfl⟩
 rw [hO] at hlv HEN HSZ hol HLE
 rw [hn] at hlv hol hl ⊢
 have HN : Hid (n ≤ 977343669105 ∧ O.length = n) := Lib.hid ⟨hl, hol⟩
 clear h hl hS hol hO hn
 go_enter Try.func13, Try.ntmps13
 go_upto_region 1 with fail
 refine wl <| gz1 (.slice a n c) <| gze (fun v w' => Rowee w' w.heap.size v O ∧ Below w.heap.size w w') (hlv) (fun v9 V1 hV1 => ?_)
 simp only [pu]
 refine gz1 (v9) <| wn ?_
 simp only [pu]
 obtain ⟨hr1, hb1⟩ := hV1
 obtain ⟨a9, c9, rfl, hcs, hc9⟩ := hr1.cs
 rw [HN.out.2] at hr1 ⊢
 have HA : Hid (0 < n → ∃ b, a9 = some ⟨b, 0, none⟩) := Lib.hid fun h0 => by
  rcases hr1.2 with ⟨e0, e1⟩ | ⟨b, cap, cur, e0, -⟩
  ·simp only [Value.slice.injEq] at e0
   omega
  ·simp only [Value.slice.injEq] at e0
   exact ⟨b, e0.1⟩
 have HST : Hid ((∀ b, a9 = some ⟨b, 0, none⟩ → ∃ Y, OD9 w V1 b c9 0 O Y) ∧ Below w.heap.size w V1) := Lib.hid ⟨fun b hb => ⟨O, by rw [HN.out.2, ← hb]; exact hr1, rfl, rfl, fun j h1 _ => by omega, fun _ _ _ => rfl, hb1⟩, hb1⟩
 clear hlv hr1 hb1 hcs hc9
 go_upto_region 2 with fail
 refine wl <| gz3 (.slice a9 n c9) (.int .i64 n) (.int .i64 0) <| wn ?_
 simp only [pu]
 go_wp2_with fail
 go_loopg [10] n (fun gg s10 wx => ∃ (i : Nat), s10 = .int .i64 i ∧ i ≤ n ∧ gg + i = n ∧ Hid ((∀ b, a9 = some ⟨b, 0, none⟩ → ∃ Y, OD9 w wx b c9 i O Y) ∧ Below w.heap.size w wx))
 case atStart => exact ⟨0, rfl, by omega, by omega, HST⟩
 case round =>
  obtain ⟨i, rfl, hin, hg, HR⟩ := hrel
  clear HST
  have HGK : Hid (gk + i = n) := Lib.hid hg
  clear hg
  by_cases hlt : i < n
  ·skip
   obtain ⟨b, hb⟩ := HA.out (by omega)
   obtain ⟨Y, hD⟩ := HR.out.1 b hb
   obtain rfl := hb
   have hge := hD.ge
   have hiO : i < O.length := by rw [HN.out.2]; exact hlt
   have hcsY := (own_nc hD.row).1
   obtain ⟨b', off', ee, -, hrg⟩ := fl_range enp enp_len (by omega) zEA hcsY (i := i) (by rw [hD.len]; exact hiO)
   cases ee
   rw [hD.old i (Nat.le_refl _) hiO] at hrg
   obtain ⟨V2, hst2, hb2, hX5⟩ := new_bx (c := enA zEn zAd) (c' := enA (O.getD i zEA).1 (O.getD i zEA).2) (ty := 50) wr rfl (enA_one _ _) (by kernel_rfl)
   obtain ⟨a2, c2, U1, U2, a3, c3, U3, U4, Y', hr1, hs2, hX6, hr3, hs4, hD4⟩ := OD9.step (hD.below hb2) hiO hX5 hge.2 (HEN.out i hiO) (HSZ.out i hiO).1 (HSZ.out i hiO).2
   have HR2 : Hid ((∀ q, some (⟨b, 0, none⟩ : Addr) = some ⟨q, 0, none⟩ → ∃ Y, OD9 w U4 q c9 (i + 1) O Y) ∧ Below w.heap.size w U4) := Lib.hid ⟨fun q hq => by cases hq; exact ⟨Y', hD4⟩, hD4.bel⟩
   obtain ⟨x, hx⟩ : ∃ x, O.getD i zEA = x := ⟨_, rfl⟩
   rw [hx] at hrg hst2 hX5 hr1 hs2 hX6 hr3 hs4
   obtain ⟨g5, hg5⟩ : ∃ g, wr.heap.size = g := ⟨_, rfl⟩
   rw [hg5] at hX5 hX6
   clear hD hD4 hcsY hb2 hge hx HR HEN HSZ
   go_upto_region 3 with fail
   refine wl <| gzb (lss_n rfl (i) (n) dT) <| wn ?_
   simp only [pu]
   go_upto_region 4 with fail
   refine wl <| gz1 (.int .i64 i) <| gzv (.pointer (some ⟨b, 0 + i * 41, none⟩)) (idx_en b 0 n c9 i hlt _ _ _ rfl (by kernel_rfl) (by kernel_rfl)) <| gzl rfl ⟨b, 0 + i * 41, none⟩ (.agg (enA x.1 x.2)) (load_en hrg) ?_
   simp only [pu]
   refine run_to rfl (some 5) rfl (.pointer (some ⟨wr.heap.size, 0, none⟩)) (wr.alloc (.cells (enA zEn zAd) 50)) (by kernel_rfl) ?_
   simp only [pu]
   refine gz1 (.int .i64 i) <| gzs rfl (hst2) <| wn ?_
   simp only [pu]
   rw [hg5]
   clear hst2 hrg hg5
   go_upto_region 5 with fail
   refine wl <| gz3 (.slice (some ⟨b, 0, none⟩) n c9) (.int .i64 i) (.pointer (some ⟨g5, 32, none⟩)) <| gzl rfl ⟨g5, 32, none⟩ (.slice x.2.ra x.1.raw.length x.2.rc) (rg_cell (bx_range hX5) (j := 32) rfl (by kernel_rfl)) ?_
   simp only [pu]
   refine append_step rfl (some 19) rfl 48 rfl (.const (.slice none 0 0)) (.tmp 18) 48 rfl (.slice none 0 0) (.slice x.2.ra x.1.raw.length x.2.rc) (.slice a2 x.1.raw.length c2) U1 (by kernel_rfl) (by kernel_rfl) hr1 ?_
   simp only [pu]
   refine gzv (.pointer (some ⟨b, 0 + i * 41, none⟩)) (idx_en b 0 n c9 i hlt _ _ _ rfl (by kernel_rfl) (by kernel_rfl)) <| gz1 (.pointer (some ⟨b, 0 + i * 41 + 32, none⟩)) <| gzs rfl (hs2) <| wn ?_
   simp only [pu]
   clear hr1 hs2 hX5
   go_upto_region 6 with fail
   refine wl <| gz3 (.slice (some ⟨b, 0, none⟩) n c9) (.int .i64 i) (.pointer (some ⟨g5, 40, none⟩)) <| gzl rfl ⟨g5, 40, none⟩ (.slice x.2.pa x.1.prs.length x.2.pc) (rg_cell (bx_range hX6) (j := 40) rfl (by kernel_rfl)) ?_
   simp only [pu]
   refine append_step rfl (some 26) rfl 23 rfl (.const (.slice none 0 0)) (.tmp 25) 23 rfl (.slice none 0 0) (.slice x.2.pa x.1.prs.length x.2.pc) (.slice a3 x.1.prs.length c3) U3 (by kernel_rfl) (by kernel_rfl) hr3 ?_
   simp only [pu]
   refine gzv (.pointer (some ⟨b, 0 + i * 41, none⟩)) (idx_en b 0 n c9 i hlt _ _ _ rfl (by kernel_rfl) (by kernel_rfl)) <| gz1 (.pointer (some ⟨b, 0 + i * 41 + 40, none⟩)) <| gzs rfl (hs4) <| wn ?_
   simp only [pu]
   clear hr3 hs4 hX6
   go_upto_region 7 with fail
   refine wl <| gzv (.int .i64 (i + 1 : Nat)) (add_one rfl i (by have := HN.out; omega) (by kernel_rfl) _) <| gz1 (.int .i64 (i + 1 : Nat)) <| wn ?_
   simp only [pu]
   go_wp2_with fail
   go_roundg (n - (i + 1))
   case measure => have := HGK.out; omega
   case rel => exact ⟨i + 1, rfl, by omega, by omega, HR2⟩
  ·skip
   obtain rfl : i = n := by omega
   go_upto_region 3 with fail
   refine wl <| gzb (lss_n rfl (i) (i) dF) <| wn ?_
   simp only [pu]
   go_upto_region 8 with fail
   refine wl <| gz2 (.slice a9 i c9) (.slice a9 i c9) <| wn ?_
   simp only [pu]
   have HE : Hid (∃ Y, Xr wr a9 Y ∧ Y.length = i ∧ lE Y = ordL (lE X)) := Lib.hid (by
    rcases Nat.eq_zero_or_pos i with h0 | h0
    ·have hO0 : O = [] := List.length_eq_zero_iff.1 (by rw [HN.out.2, h0])
     exact ⟨[], Xr.nil _ _, by rw [h0]; rfl, by rw [← HLE.out, hO0]⟩
    ·obtain ⟨b, hb⟩ := HA.out h0
     obtain ⟨Y, hD⟩ := HR.out.1 b hb
     have hOl := HN.out.2
     refine ⟨Y, ⟨by rw [hb]; exact (own_nc hD.row).1, fun j hj => (hD.own j (by rw [hD.len] at hj; omega) (by rw [hD.len] at hj; exact hj)).i⟩, by rw [hD.len, hOl], by rw [hD.same, HLE.out]⟩)
   go_wp2_with fail
   go_ret
   obtain ⟨Y, h1, h2, h3⟩ := HE.out
   exact ⟨a9, c9, Y, rfl, h1, h2, h3, HR.out.2⟩
set_option maxRecDepth 100000 in
set_option maxHeartbeats 8000000 in
theorem r_order {w : World} {a : Option Addr} {c : Nat} {X : List (En × Ad)} (h : Xr w a X) (hl : X.length ≤ 977343669105) : Calls Try.prog 14 #[.slice a X.length c] w fun e w' => ∃ v, e = .returned v ∧ XrO w (ordX X) v w' := by
 have HRNG : Hid (∀ V, Below w.heap.size w V → ∀ i, i < X.length → ∃ b off, a = some ⟨b, off, none⟩ ∧ V.rangeAt b (off + i * 41) (enp (X.getD i zEA))) := Lib.hid fun V hV i hi => by
  obtain ⟨b, off, h1, -, h2⟩ := (h.below hV).rg hi
  exact ⟨b, off, h1, h2⟩
 have HNEW : Hid (∀ V v, Below w.heap.size w V → Rowee V w.heap.size v (ordX X) → ∃ u, Ending.returned v = .returned u ∧ XrO w (ordX X) u V) := Lib.hid fun V v hV hv => ⟨v, rfl, XrO.new hv (fun x hx => sub_en h.en x ((ord_perm X).mem_iff.1 hx)) hV⟩
 have HXT : Hid (∀ i, i < X.length → ordX (X.take (i + 1)) = insX (ordX (X.take i)) (X.getD i zEA)) := Lib.hid fun i hi => ordX_step X i hi
 obtain ⟨PO, hPO⟩ : ∃ PO, XrO w (ordX X) = PO := ⟨_, rfl⟩
 rw [hPO] at HNEW ⊢
 obtain ⟨n, hn⟩ : ∃ n, X.length = n := ⟨_, rfl⟩
 have HXN := Lib.hid hn
 rw [hn] at HRNG HXT hl ⊢
 have HN := Lib.hid hl
 clear h hn hPO hl
 go_enter Try.func14, Try.ntmps14
 go_upto_region 1 with fail
 refine wl <| gz1 (.slice none 0 0) <| wn ?_
 simp only [pu]
 go_upto_region 2 with fail
 refine wl <| gz3 (.slice a n c) (.int .i64 n) (.int .i64 0) <| wn ?_
 simp only [pu]
 go_wp2_with fail
 go_loopg [3, 9] n (fun gg sA sB wx => ∃ (i : Nat) (v : Value) (Y : List (En × Ad)), sB = .int .i64 i ∧ sA = v ∧ i ≤ n ∧ gg + i = n ∧ Hid (Y = ordX (X.take i) ∧ Y.length ≤ i ∧ Rowee wx w.heap.size v Y ∧ Below w.heap.size w wx))
 case atStart => exact ⟨0, _, [], rfl, rfl, by omega, by omega, Lib.hid ⟨rfl, Nat.le_refl _, World.ownsRow_nil _ _ _ _, Below.refl _ _⟩⟩
 case round =>
  obtain ⟨i, v, Y, rfl, rfl, hin, hg, HR⟩ := hrel
  have HGK : Hid (gk + i = n) := Lib.hid hg
  clear hg
  obtain ⟨a9, c9, rfl, -, hc9⟩ := HR.out.2.2.1.cs
  obtain ⟨m, hm⟩ : ∃ m, Y.length = m := ⟨_, rfl⟩
  have HM := Lib.hid hm
  rw [hm] at hc9
  rw [hm]
  have HC9 := Lib.hid hc9
  clear hc9 hm
  by_cases hlt : i < n
  ·skip
   obtain ⟨b, off, hbb, hrg⟩ := HRNG.out wr HR.out.2.2.2 i hlt
   obtain rfl := hbb
   obtain ⟨x, hx⟩ : ∃ x, X.getD i zEA = x := ⟨_, rfl⟩
   rw [hx] at hrg
   have HXI := Lib.hid (HXT.out i hlt)
   rw [hx] at HXI
   obtain ⟨V2, hst2, hb2, hX5⟩ := new_bx (c := enA zEn zAd) (c' := enA x.1 x.2) (ty := 50) wr rfl (enA_one _ _) (by kernel_rfl)
   have HR2 := Lib.hid (HR.out.2.2.2.trans (hb2.mono HR.out.2.2.2.size))
   have HO2 : Hid (Rowee V2 w.heap.size (.slice a9 m c9) Y) := Lib.hid (by have h9 := HR.out.2.2.1; rw [HM.out] at h9; exact h9.below hb2)
   have HY := Lib.hid HR.out.1
   have HYL : Hid (m ≤ i) := Lib.hid (by rw [← HM.out]; exact HR.out.2.1)
   clear HR hx
   go_upto_region 3 with fail
   refine wl <| gzb (lss_n rfl (i) (n) dT) <| wn ?_
   simp only [pu]
   go_upto_region 4 with fail
   refine wl <| gzv (.pointer (some ⟨b, off + i * 41, none⟩)) (idx_en b off n c i hlt _ _ _ rfl (by kernel_rfl) (by kernel_rfl)) <| gzl rfl ⟨b, off + i * 41, none⟩ (.agg (enA x.1 x.2)) (load_en hrg) ?_
   simp only [pu]
   refine run_to rfl (some 5) rfl (.pointer (some ⟨wr.heap.size, 0, none⟩)) (wr.alloc (.cells (enA zEn zAd) 50)) (by kernel_rfl) ?_
   simp only [pu]
   refine gzs rfl (hst2) <| wn ?_
   obtain ⟨g5, hg5⟩ : ∃ g, wr.heap.size = g := ⟨_, rfl⟩
   rw [hg5] at hX5 ⊢
   clear hst2 hb2 hrg hg5
   go_upto_region 5 with fail
   refine wl <| gz1 (.int .i64 0) <| wn ?_
   simp only [pu]
   have HX5 := Lib.hid hX5
   clear hX5
   go_wp2_with fail
   go_loopg [6] m (fun gg s6 wx => ∃ (k : Nat), s6 = .int .i64 k ∧ k ≤ m ∧ gg + k = m ∧ Hid (Below V2.heap.size V2 wx ∧ ∀ j, j < k → bfP (Y.getD j zEA).1 x.1 = true))
   case atStart => exact ⟨0, rfl, Nat.zero_le _, rfl, Lib.hid ⟨Below.refl _ _, fun j h1 => by omega⟩⟩
   case round =>
    obtain ⟨k, rfl, hkm, hgk, HW⟩ := hrel
    have HGI : Hid (gk + k = m) := Lib.hid hgk
    have hX5 := HX5.out.below HX5.out.lt HW.out.1
    clear hgk
    by_cases hk0 : k < m
    ·skip
     obtain ⟨a8, c8, e8, h8, -⟩ := (show Rowee wr w.heap.size (.slice a9 m c9) Y from HO2.out.below HW.out.1).cs
     obtain ⟨bz, oz, e9, -, hr9⟩ := fl_range enp enp_len (by omega) zEA h8 (i := k) (by rw [HM.out]; omega)
     simp only [Value.slice.injEq] at e8
     obtain rfl : a9 = some ⟨bz, oz, none⟩ := e8.1.trans e9
     clear h8 e8 e9
     obtain ⟨y, hy⟩ : ∃ y, Y.getD k zEA = y := ⟨_, rfl⟩
     rw [hy] at hr9
     have HYY := Lib.hid hy
     clear hy
     by_cases hp1 : y.1.pri < x.1.pri
     ·skip
      have hpp : bfP y.1 x.1 = true := by unfold bfP; rw [decide_eq_true hp1]; rfl
      go_upto_region 6 with fail
      refine wp_region_class (C := fun U => Below wr.heap.size wr U) (by kernel_rfl) (by kernel_rfl) ((Below.refl _ wr).drew) ?_
      refine gy (.int .i64 k) <| gy (.slice (some ⟨bz, oz, none⟩) m c9) <| gy (.int .i64 m) <| gyv (.bool true) (fun U hU => lss_n rfl (k : Int) m dT (by kernel_rfl) (by kernel_rfl) U) <| gy (.bool true) <| gy (.slice (some ⟨bz, oz, none⟩) m c9) <| gy (.int .i64 k) <|
        gyv (.pointer (some ⟨bz, oz + k * 41, none⟩)) (fun U hU => idx_en bz oz m c9 k (by omega) U _ _ rfl (by kernel_rfl) (by kernel_rfl)) <| gy (.pointer (some ⟨bz, oz + k * 41 + 36, none⟩)) <|
        gyl rfl ⟨bz, oz + k * 41 + 36, none⟩ (.int .u64 y.1.pri) (fun U hU => rg_cell (rg_below hr9 hU) (j := 36) rfl (by kernel_rfl)) <| gy (.pointer (some ⟨g5, 36, none⟩)) <|
        gyl rfl ⟨g5, 36, none⟩ (.int .u64 x.1.pri) (fun U hU => rg_cell (bx_range (hX5.below hX5.lt hU)) (j := 36) rfl (by kernel_rfl)) <| gyv (.bool true) (fun U hU => lss_w rfl y.1.pri x.1.pri (decide_eq_true hp1) (by kernel_rfl) (by kernel_rfl) U) <| gy (.bool true) <| gyn <| gyn <| gyn <| gyn <|
        gyn <| gyn <| gyn <| gyn <| gyn <| gyn <| gyn <| gyn <| gyn <| gyn <| gyn <| gyn <| gyn <| gyn <| gy (.bool true) <| gy (.bool true) ?_
      simp only [pu]
      apply wpQuiet_nil
      intro V6 hV6
      have hr6 := rg_below hr9 hV6
      clear hr9
      have hr9 := hr6
      clear hr6
      have HW2 : Hid (Below V2.heap.size V2 V6 ∧ ∀ j, j < k → bfP (Y.getD j zEA).1 x.1 = true) := Lib.hid ⟨HW.out.1.trans (hV6.mono HW.out.1.size), HW.out.2⟩
      have hX6 := hX5.below hX5.lt hV6
      clear hV6 HW hX5
      have HW := HW2
      have hX5 := hX6
      clear hX6
      generalize V6 = wr at *
      clear hr9 hX5
      go_upto_region 7 with fail
      refine wl <| gz1 (.int .i64 k) <| gzv (.int .i64 (k + 1 : Nat)) (add_one rfl k (by have := HYL.out; have := HN.out; omega) (by kernel_rfl) _) <| gz1 (.int .i64 (k + 1 : Nat)) <| wn ?_
      simp only [pu]
      go_wp2_with fail
      go_roundg (m - (k + 1))
      case measure => have := HGI.out; omega
      case rel =>
       refine ⟨k + 1, rfl, by omega, by omega, Lib.hid ⟨HW2.out.1, fun j h1 => ?_⟩⟩
       rcases Nat.lt_or_ge j k with h3 | h3
       ·exact HW2.out.2 j h3
       ·obtain rfl : j = k := by omega
        rw [HYY.out]; exact hpp
     ·skip
      by_cases hp2 : y.1.pri = x.1.pri
      ·skip
       by_cases hp3 : x.1.od < y.1.od
       ·skip
        have hpp : bfP y.1 x.1 = true := by unfold bfP; simp only [decide_eq_false hp1, decide_eq_true hp2, decide_eq_true hp3]; rfl
        go_upto_region 6 with fail
        refine wp_region_class (C := fun U => Below wr.heap.size wr U) (by kernel_rfl) (by kernel_rfl) ((Below.refl _ wr).drew) ?_
        refine gy (.int .i64 k) <| gy (.slice (some ⟨bz, oz, none⟩) m c9) <| gy (.int .i64 m) <| gyv (.bool true) (fun U hU => lss_n rfl (k : Int) m dT (by kernel_rfl) (by kernel_rfl) U) <| gy (.bool true) <| gy (.slice (some ⟨bz, oz, none⟩) m c9) <| gy (.int .i64 k) <|
          gyv (.pointer (some ⟨bz, oz + k * 41, none⟩)) (fun U hU => idx_en bz oz m c9 k (by omega) U _ _ rfl (by kernel_rfl) (by kernel_rfl)) <| gy (.pointer (some ⟨bz, oz + k * 41 + 36, none⟩)) <|
          gyl rfl ⟨bz, oz + k * 41 + 36, none⟩ (.int .u64 y.1.pri) (fun U hU => rg_cell (rg_below hr9 hU) (j := 36) rfl (by kernel_rfl)) <| gy (.pointer (some ⟨g5, 36, none⟩)) <|
          gyl rfl ⟨g5, 36, none⟩ (.int .u64 x.1.pri) (fun U hU => rg_cell (bx_range (hX5.below hX5.lt hU)) (j := 36) rfl (by kernel_rfl)) <| gyv (.bool false) (fun U hU => lss_w rfl y.1.pri x.1.pri (decide_eq_false hp1) (by kernel_rfl) (by kernel_rfl) U) <| gy (.bool false) <|
          gy (.slice (some ⟨bz, oz, none⟩) m c9) <| gy (.int .i64 k) <| gyv (.pointer (some ⟨bz, oz + k * 41, none⟩)) (fun U hU => idx_en bz oz m c9 k (by omega) U _ _ rfl (by kernel_rfl) (by kernel_rfl)) <| gy (.pointer (some ⟨bz, oz + k * 41 + 36, none⟩)) <|
          gyl rfl ⟨bz, oz + k * 41 + 36, none⟩ (.int .u64 y.1.pri) (fun U hU => rg_cell (rg_below hr9 hU) (j := 36) rfl (by kernel_rfl)) <| gy (.pointer (some ⟨g5, 36, none⟩)) <|
          gyl rfl ⟨g5, 36, none⟩ (.int .u64 x.1.pri) (fun U hU => rg_cell (bx_range (hX5.below hX5.lt hU)) (j := 36) rfl (by kernel_rfl)) <| gyv (.bool true) (fun U hU => eql_w rfl y.1.pri x.1.pri (decide_eq_true hp2) (by kernel_rfl) (by kernel_rfl) U) <| gy (.bool true) <|
          gy (.slice (some ⟨bz, oz, none⟩) m c9) <| gy (.int .i64 k) <| gyv (.pointer (some ⟨bz, oz + k * 41, none⟩)) (fun U hU => idx_en bz oz m c9 k (by omega) U _ _ rfl (by kernel_rfl) (by kernel_rfl)) <| gy (.pointer (some ⟨bz, oz + k * 41 + 39, none⟩)) <|
          gyl rfl ⟨bz, oz + k * 41 + 39, none⟩ (.int .i64 y.1.od) (fun U hU => rg_cell (rg_below hr9 hU) (j := 39) rfl (by kernel_rfl)) <| gy (.pointer (some ⟨g5, 39, none⟩)) <|
          gyl rfl ⟨g5, 39, none⟩ (.int .i64 x.1.od) (fun U hU => rg_cell (bx_range (hX5.below hX5.lt hU)) (j := 39) rfl (by kernel_rfl)) <| gyv (.bool true) (fun U hU => gtr_n rfl y.1.od x.1.od (decide_eq_true hp3) (by kernel_rfl) (by kernel_rfl) U) <| gy (.bool true) <| gy (.bool true) <|
          gy (.bool true) ?_
        simp only [pu]
        apply wpQuiet_nil
        intro V6 hV6
        have hr6 := rg_below hr9 hV6
        clear hr9
        have hr9 := hr6
        clear hr6
        have HW2 : Hid (Below V2.heap.size V2 V6 ∧ ∀ j, j < k → bfP (Y.getD j zEA).1 x.1 = true) := Lib.hid ⟨HW.out.1.trans (hV6.mono HW.out.1.size), HW.out.2⟩
        have hX6 := hX5.below hX5.lt hV6
        clear hV6 HW hX5
        have HW := HW2
        have hX5 := hX6
        clear hX6
        generalize V6 = wr at *
        clear hr9 hX5
        go_upto_region 7 with fail
        refine wl <| gz1 (.int .i64 k) <| gzv (.int .i64 (k + 1 : Nat)) (add_one rfl k (by have := HYL.out; have := HN.out; omega) (by kernel_rfl) _) <| gz1 (.int .i64 (k + 1 : Nat)) <| wn ?_
        simp only [pu]
        go_wp2_with fail
        go_roundg (m - (k + 1))
        case measure => have := HGI.out; omega
        case rel =>
         refine ⟨k + 1, rfl, by omega, by omega, Lib.hid ⟨HW2.out.1, fun j h1 => ?_⟩⟩
         rcases Nat.lt_or_ge j k with h3 | h3
         ·exact HW2.out.2 j h3
         ·obtain rfl : j = k := by omega
          rw [HYY.out]; exact hpp
       ·skip
        have hpp : bfP y.1 x.1 = false := by unfold bfP; simp only [decide_eq_false hp1, decide_eq_true hp2, decide_eq_false hp3]; rfl
        go_upto_region 6 with fail
        refine wp_region_class (C := fun U => Below wr.heap.size wr U) (by kernel_rfl) (by kernel_rfl) ((Below.refl _ wr).drew) ?_
        refine gy (.int .i64 k) <| gy (.slice (some ⟨bz, oz, none⟩) m c9) <| gy (.int .i64 m) <| gyv (.bool true) (fun U hU => lss_n rfl (k : Int) m dT (by kernel_rfl) (by kernel_rfl) U) <| gy (.bool true) <| gy (.slice (some ⟨bz, oz, none⟩) m c9) <| gy (.int .i64 k) <|
          gyv (.pointer (some ⟨bz, oz + k * 41, none⟩)) (fun U hU => idx_en bz oz m c9 k (by omega) U _ _ rfl (by kernel_rfl) (by kernel_rfl)) <| gy (.pointer (some ⟨bz, oz + k * 41 + 36, none⟩)) <|
          gyl rfl ⟨bz, oz + k * 41 + 36, none⟩ (.int .u64 y.1.pri) (fun U hU => rg_cell (rg_below hr9 hU) (j := 36) rfl (by kernel_rfl)) <| gy (.pointer (some ⟨g5, 36, none⟩)) <|
          gyl rfl ⟨g5, 36, none⟩ (.int .u64 x.1.pri) (fun U hU => rg_cell (bx_range (hX5.below hX5.lt hU)) (j := 36) rfl (by kernel_rfl)) <| gyv (.bool false) (fun U hU => lss_w rfl y.1.pri x.1.pri (decide_eq_false hp1) (by kernel_rfl) (by kernel_rfl) U) <| gy (.bool false) <|
          gy (.slice (some ⟨bz, oz, none⟩) m c9) <| gy (.int .i64 k) <| gyv (.pointer (some ⟨bz, oz + k * 41, none⟩)) (fun U hU => idx_en bz oz m c9 k (by omega) U _ _ rfl (by kernel_rfl) (by kernel_rfl)) <| gy (.pointer (some ⟨bz, oz + k * 41 + 36, none⟩)) <|
          gyl rfl ⟨bz, oz + k * 41 + 36, none⟩ (.int .u64 y.1.pri) (fun U hU => rg_cell (rg_below hr9 hU) (j := 36) rfl (by kernel_rfl)) <| gy (.pointer (some ⟨g5, 36, none⟩)) <|
          gyl rfl ⟨g5, 36, none⟩ (.int .u64 x.1.pri) (fun U hU => rg_cell (bx_range (hX5.below hX5.lt hU)) (j := 36) rfl (by kernel_rfl)) <| gyv (.bool true) (fun U hU => eql_w rfl y.1.pri x.1.pri (decide_eq_true hp2) (by kernel_rfl) (by kernel_rfl) U) <| gy (.bool true) <|
          gy (.slice (some ⟨bz, oz, none⟩) m c9) <| gy (.int .i64 k) <| gyv (.pointer (some ⟨bz, oz + k * 41, none⟩)) (fun U hU => idx_en bz oz m c9 k (by omega) U _ _ rfl (by kernel_rfl) (by kernel_rfl)) <| gy (.pointer (some ⟨bz, oz + k * 41 + 39, none⟩)) <|
          gyl rfl ⟨bz, oz + k * 41 + 39, none⟩ (.int .i64 y.1.od) (fun U hU => rg_cell (rg_below hr9 hU) (j := 39) rfl (by kernel_rfl)) <| gy (.pointer (some ⟨g5, 39, none⟩)) <|
          gyl rfl ⟨g5, 39, none⟩ (.int .i64 x.1.od) (fun U hU => rg_cell (bx_range (hX5.below hX5.lt hU)) (j := 39) rfl (by kernel_rfl)) <| gyv (.bool false) (fun U hU => gtr_n rfl y.1.od x.1.od (decide_eq_false hp3) (by kernel_rfl) (by kernel_rfl) U) <| gy (.bool false) <| gy (.bool false) <|
          gy (.bool false) ?_
        simp only [pu]
        apply wpQuiet_nil
        intro V6 hV6
        have hr6 := rg_below hr9 hV6
        clear hr9
        have hr9 := hr6
        clear hr6
        have HW2 : Hid (Below V2.heap.size V2 V6 ∧ ∀ j, j < k → bfP (Y.getD j zEA).1 x.1 = true) := Lib.hid ⟨HW.out.1.trans (hV6.mono HW.out.1.size), HW.out.2⟩
        have hX6 := hX5.below hX5.lt hV6
        clear hV6 HW hX5
        have HW := HW2
        have hX5 := hX6
        clear hX6
        generalize V6 = wr at *
        clear HW2
        have HK : Hid (insX Y x = Y.take k ++ [x] ++ Y.drop k) := Lib.hid (by
         rw [insX_at Y x k (by rw [HM.out]; exact hkm) HW.out.2 (fun _ => by rw [HYY.out]; exact hpp), List.append_assoc]
         rfl)
        have HTL : Hid ((Y.take k).length = k) := Lib.hid (by rw [List.length_take, HM.out]; omega)
        have HDL : Hid ((Y.drop k).length = m - k) := Lib.hid (by rw [List.length_drop, HM.out])
        have HB9 := Lib.hid (HR2.out.trans (HW.out.1.mono HR2.out.size))
        have HO9 : Hid (∀ U, Below wr.heap.size wr U → Cs U (some ⟨bz, oz, none⟩) (ens Y)) := Lib.hid fun U hU => by
         obtain ⟨a8, c8, e8, h8, -⟩ := (show Rowee U w.heap.size (.slice (some ⟨bz, oz, none⟩) m c9) Y from (HO2.out.below HW.out.1).below hU).cs
         simp only [Value.slice.injEq] at e8
         rw [e8.1]
         exact h8
        have hc9 := HC9.out
        have h0 := CH.start wr x (Y.take k) (Y.take k ++ [x]) (Y.take k ++ [x] ++ Y.drop k) u49 u53 u56 u60 u55
        generalize wr = V7 at *
        clear HW HO2 HX5 HGI
        go_upto_region 8 with fail
        refine wp_region_inv (fun listed act9 V => ∃ b0 b1 b2 b3 b4 b5 b6 b7 b8 b9 b10 b11 b12 : Bool, ∃ x49 x53 x55 x56 x60 : Value, listed = #[b0, b1, b2, b3, b4, b5, b6, b7, b8, b9, b10, b11, b12] ∧ act9 = { tmps := #[.slice (some ⟨b, off, none⟩) n c, undef, .slice none 0 0, (cond b12 (x60) (.slice (some ⟨bz, oz, none⟩) m c9)), undef, .pointer (some ⟨g5, 0, none⟩), .int .i64 k, .slice (some ⟨b, off, none⟩) n c, .int .i64 n, .int .i64 i, .bool true, .pointer (some ⟨b, off + i * 41, none⟩), .agg (enA x.1 x.2), .int .i64 k, .slice (some ⟨bz, oz, none⟩) m c9, .int .i64 m, .bool true, .bool true, .slice (some ⟨bz, oz, none⟩) m c9, .int .i64 k, .pointer (some ⟨bz, oz + k * 41, none⟩), .pointer (some ⟨bz, oz + k * 41 + 36, none⟩), .int .u64 y.1.pri, .pointer (some ⟨g5, 36, none⟩), .int .u64 x.1.pri, .bool false, .bool false, .slice (some ⟨bz, oz, none⟩) m c9, .int .i64 k, .pointer (some ⟨bz, oz + k * 41, none⟩), .pointer (some ⟨bz, oz + k * 41 + 36, none⟩), .int .u64 y.1.pri, .pointer (some ⟨g5, 36, none⟩), .int .u64 x.1.pri, .bool true, .bool true, .slice (some ⟨bz, oz, none⟩) m c9, .int .i64 k, .pointer (some ⟨bz, oz + k * 41, none⟩), .pointer (some ⟨bz, oz + k * 41 + 39, none⟩), .int .i64 y.1.od, .pointer (some ⟨g5, 39, none⟩), .int .i64 x.1.od, .bool false, .bool false, .bool false, .bool false, u47, u48, x49, (cond b1 (.slice (some ⟨bz, oz, none⟩) m c9) (u50)), (cond b2 (.int .i64 k) (u51)), (cond b3 (.slice (some ⟨bz, oz, none⟩) k c9) (u52)), x53, (cond b5 (.agg (enA x.1 x.2)) (u54)), x55, x56, (cond b8 (.slice (some ⟨bz, oz, none⟩) m c9) (u57)), (cond b9 (.int .i64 k) (u58)), (cond b10 (.slice (fromS 41 (some ⟨bz, oz, none⟩) c9 k) (m - k) (c9 - k)) (u59)), x60, u61, undef], defers := [] } ∧ CH V7 x (Y.take k) (Y.take k ++ [x]) (Y.take k ++ [x] ++ Y.drop k) b0 b4 b7 b11 b6 x49 x53 x56 x60 x55 V ∧ (b12 = true → b11 = true) ∧ OD b1 b3 b4 b8 b10 b11) (by kernel_rfl) (by kernel_rfl) ?_ ?_ ?_
        ·exact ⟨false, false, false, false, false, false, false, false, false, false, false, false, false, u49, u53, u55, u56, u60, rfl, rfl, h0, fun h => (by cases h), OD.z⟩
        ·intro i9 listed act9 V hi9 hr hJ
         obtain ⟨b0, b1, b2, b3, b4, b5, b6, b7, b8, b9, b10, b11, b12, x49, x53, x55, x56, x60, rfl, rfl, hF, hA, hD⟩ := hJ
         have hi2 : i9 < 13 := hi9
         have hi3 : i9 = 0 ∨ i9 = 1 ∨ i9 = 2 ∨ i9 = 3 ∨ i9 = 4 ∨ i9 = 5 ∨ i9 = 6 ∨ i9 = 7 ∨ i9 = 8 ∨ i9 = 9 ∨ i9 = 10 ∨ i9 = 11 ∨ i9 = 12 := by omega
         rcases hi3 with rfl | rfl | rfl | rfl | rfl | rfl | rfl | rfl | rfl | rfl | rfl | rfl | rfl
         ·obtain rfl : b0 = false := ready_self hr
          obtain rfl : b4 = false := by cases b4; rfl; exact absurd (hF.c1 rfl) (by decide)
          obtain rfl : b7 = false := by cases b7; rfl; exact absurd (hF.c2 rfl) (by decide)
          obtain rfl : b11 = false := by cases b11; rfl; exact absurd (hF.c3 rfl) (by decide)
          refine st_build rfl (by kernel_rfl) (some 49) rfl 22 0 #[] rfl #[] (by kernel_rfl) (.slice (some ⟨V.heap.size, 0, none⟩) 0 0) _ (nil_ee V) ?_
          exact ⟨true, b1, b2, b3, false, b5, b6, false, b8, b9, b10, false, b12, _, x53, x55, x56, x60, rfl, rfl, hF.nil, hA, ⟨hD.a, hD.b, hD.c, hD.d⟩⟩
         ·obtain rfl : b1 = false := ready_self hr
          obtain rfl : b12 = false := by cases b12; rfl; exact absurd (hD.a (hD.b (hF.c2 (hF.c3 (hA rfl))))) (by decide)
          refine st_val rfl (by kernel_rfl) (some 50) rfl (.slice (some ⟨bz, oz, none⟩) m c9) V (by kernel_rfl) ?_
          exact ⟨b0, true, b2, b3, b4, b5, b6, b7, b8, b9, b10, b11, false, x49, x53, x55, x56, x60, rfl, rfl, hF, hA, ⟨fun _ => rfl, hD.b, hD.c, hD.d⟩⟩
         ·obtain rfl : b2 = false := ready_self hr
          refine st_val rfl (by kernel_rfl) (some 51) rfl (.int .i64 k) V (by kernel_rfl) ?_
          exact ⟨b0, b1, true, b3, b4, b5, b6, b7, b8, b9, b10, b11, b12, x49, x53, x55, x56, x60, rfl, rfl, hF, hA, ⟨hD.a, hD.b, hD.c, hD.d⟩⟩
         ·obtain rfl : b3 = false := ready_self hr
          obtain rfl : b1 = true := ready_dep hr 1 (by kernel_rfl)
          obtain rfl : b2 = true := ready_dep hr 2 (by kernel_rfl)
          refine st_slice_to rfl (by kernel_rfl) (some 52) rfl 22 (.tmp 50) (.tmp 51) rfl (.slice (some ⟨bz, oz, none⟩) m c9) (.int .i64 (k : Int)) (.slice (some ⟨bz, oz, none⟩) k c9) (by kernel_rfl) (by kernel_rfl) (cut_ee_to (some ⟨bz, oz, none⟩) m c9 k V (by omega)) ?_
          exact ⟨b0, true, true, true, b4, b5, b6, b7, b8, b9, b10, b11, b12, x49, x53, x55, x56, x60, rfl, rfl, hF, hA, ⟨fun _ => rfl, fun _ => rfl, hD.c, hD.d⟩⟩
         ·obtain rfl : b4 = false := ready_self hr
          obtain rfl : b0 = true := ready_dep hr 0 (by kernel_rfl)
          obtain rfl : b3 = true := ready_dep hr 3 (by kernel_rfl)
          obtain rfl : b7 = false := by cases b7; rfl; exact absurd (hF.c2 rfl) (by decide)
          obtain rfl : b11 = false := by cases b11; rfl; exact absurd (hF.c3 rfl) (by decide)
          have hO := hF.r0 rfl rfl
          obtain ⟨v, V2, hap, hO2, hb2, hg2, hat2⟩ := Row.app hO hF.bel.size (some ⟨bz, oz, none⟩) k c9 (Y.take k) (by rw [← ens_take]; exact (HO9.out _ hF.bel).take _) HTL.out (by simp only [List.length_nil]; have := HYL.out; have := HN.out; omega)
          refine st_append rfl (by kernel_rfl) (some 53) rfl 22 rfl (.tmp 49) (.tmp 52) 22 rfl x49 (.slice (some ⟨bz, oz, none⟩) k c9) v V2 (by kernel_rfl) (by kernel_rfl) hap ?_
          exact ⟨true, b1, b2, true, true, b5, b6, false, b8, b9, b10, false, b12, x49, v, x55, x56, x60, rfl, rfl, hF.one (by rw [List.nil_append] at hO2; exact hO2) hb2 hg2 hat2, hA, ⟨hD.a, fun _ => rfl, hD.c, hD.d⟩⟩
         ·obtain rfl : b5 = false := ready_self hr
          refine st_load rfl (by kernel_rfl) (some 54) rfl 50 (.tmp 5) rfl ⟨g5, 0, none⟩ (.agg (enA x.1 x.2)) (by kernel_rfl) (load_en (bx_range (hX5.below hX5.lt hF.bel))) ?_
          exact ⟨b0, b1, b2, b3, b4, true, b6, b7, b8, b9, b10, b11, b12, x49, x53, x55, x56, x60, rfl, rfl, hF, hA, ⟨hD.a, hD.b, hD.c, hD.d⟩⟩
         ·obtain rfl : b6 = false := ready_self hr
          obtain rfl : b5 = true := ready_dep hr 5 (by kernel_rfl)
          refine st_build rfl (by kernel_rfl) (some 55) rfl 22 1 #[(0, .tmp 54)] rfl #[(0, .agg (enA x.1 x.2))] (by kernel_rfl) (.slice (some ⟨V.heap.size, 0, none⟩) 1 1) _ (build_ee x V) ?_
          exact ⟨b0, b1, b2, b3, b4, true, true, b7, b8, b9, b10, b11, b12, x49, x53, _, x56, x60, rfl, rfl, hF.key, hA, ⟨hD.a, hD.b, hD.c, hD.d⟩⟩
         ·obtain rfl : b7 = false := ready_self hr
          obtain rfl : b4 = true := ready_dep hr 4 (by kernel_rfl)
          obtain rfl : b6 = true := ready_dep hr 6 (by kernel_rfl)
          obtain rfl : b11 = false := by cases b11; rfl; exact absurd (hF.c3 rfl) (by decide)
          have hO := hF.r1 rfl rfl
          obtain ⟨gq, rfl, hgx, -⟩ := hF.kx rfl
          have hgc := ens_of hgx
          obtain ⟨v, V2, hap, hO2, hb2, hg2, hat2⟩ := Row.app hO hF.bel.size (some ⟨gq, 0, none⟩) 1 1 [x] hgc rfl (by rw [HTL.out]; have := HYL.out; have := HN.out; omega)
          refine st_append rfl (by kernel_rfl) (some 56) rfl 22 rfl (.tmp 53) (.tmp 55) 22 rfl x53 (.slice (some ⟨gq, 0, none⟩) 1 1) v V2 (by kernel_rfl) (by kernel_rfl) hap ?_
          exact ⟨b0, b1, b2, b3, true, b5, true, true, b8, b9, b10, false, b12, x49, x53, _, v, x60, rfl, rfl, hF.two hO2 hb2 hg2 hat2, hA, ⟨hD.a, hD.b, hD.c, hD.d⟩⟩
         ·obtain rfl : b8 = false := ready_self hr
          obtain rfl : b12 = false := by cases b12; rfl; exact absurd (hD.c (hD.d (hA rfl))) (by decide)
          refine st_val rfl (by kernel_rfl) (some 57) rfl (.slice (some ⟨bz, oz, none⟩) m c9) V (by kernel_rfl) ?_
          exact ⟨b0, b1, b2, b3, b4, b5, b6, b7, true, b9, b10, b11, false, x49, x53, x55, x56, x60, rfl, rfl, hF, hA, ⟨hD.a, hD.b, fun _ => rfl, hD.d⟩⟩
         ·obtain rfl : b9 = false := ready_self hr
          refine st_val rfl (by kernel_rfl) (some 58) rfl (.int .i64 k) V (by kernel_rfl) ?_
          exact ⟨b0, b1, b2, b3, b4, b5, b6, b7, b8, true, b10, b11, b12, x49, x53, x55, x56, x60, rfl, rfl, hF, hA, ⟨hD.a, hD.b, hD.c, hD.d⟩⟩
         ·obtain rfl : b10 = false := ready_self hr
          obtain rfl : b8 = true := ready_dep hr 8 (by kernel_rfl)
          obtain rfl : b9 = true := ready_dep hr 9 (by kernel_rfl)
          refine st_slice_from rfl (by kernel_rfl) (some 59) rfl 22 (.tmp 57) (.tmp 58) rfl (.slice (some ⟨bz, oz, none⟩) m c9) (.int .i64 ((k : Nat) : Int)) (.slice (fromS 41 (some ⟨bz, oz, none⟩) c9 k) (m - k) (c9 - k)) (by kernel_rfl) (by kernel_rfl) (cut_ee_from (some ⟨bz, oz, none⟩) m c9 (k) V (by omega)) ?_
          exact ⟨b0, b1, b2, b3, b4, b5, b6, b7, true, true, true, b11, b12, x49, x53, x55, x56, x60, rfl, rfl, hF, hA, ⟨hD.a, hD.b, fun _ => rfl, fun _ => rfl⟩⟩
         ·obtain rfl : b11 = false := ready_self hr
          obtain rfl : b7 = true := ready_dep hr 7 (by kernel_rfl)
          obtain rfl : b10 = true := ready_dep hr 10 (by kernel_rfl)
          obtain rfl : b12 = false := by cases b12; rfl; exact absurd (hA rfl) (by decide)
          have hO := hF.r2 rfl rfl
          obtain ⟨v, V2, hap, hO2, hb2, hg2, hat2⟩ := Row.app hO hF.bel.size (fromS 41 (some ⟨bz, oz, none⟩) c9 k) (m - k) (c9 - k) (Y.drop k) (by rw [← ens_drop]; exact (HO9.out _ hF.bel).from 41 c9 k (by rw [ens_len, HM.out]; omega)) HDL.out (by rw [List.length_append, HTL.out]; simp only [List.length_cons, List.length_nil]; have := HYL.out; have := HN.out; omega)
          refine st_append rfl (by kernel_rfl) (some 60) rfl 22 rfl (.tmp 56) (.tmp 59) 22 rfl x56 (.slice (fromS 41 (some ⟨bz, oz, none⟩) c9 k) (m - k) (c9 - k)) v V2 (by kernel_rfl) (by kernel_rfl) hap ?_
          exact ⟨b0, b1, b2, b3, b4, b5, b6, true, b8, b9, true, true, false, x49, x53, x55, x56, v, rfl, rfl, hF.three hO2 hb2 hg2 hat2, fun h => (by cases h), ⟨hD.a, hD.b, hD.c, fun _ => rfl⟩⟩
         ·obtain rfl : b12 = false := ready_self hr
          obtain rfl : b11 = true := ready_dep hr 11 (by kernel_rfl)
          refine st_val rfl (by kernel_rfl) (some 3) rfl (x60) V (by kernel_rfl) ?_
          exact ⟨b0, b1, b2, b3, b4, b5, b6, b7, b8, b9, b10, true, true, x49, x53, x55, x56, x60, rfl, rfl, hF, fun _ => rfl, ⟨hD.a, hD.b, hD.c, hD.d⟩⟩
        ·intro act9 V hJ
         obtain ⟨b0, b1, b2, b3, b4, b5, b6, b7, b8, b9, b10, b11, b12, x49, x53, x55, x56, x60, he, rfl, hF, hA, hD⟩ := hJ
         have he : (#[true, true, true, true, true, true, true, true, true, true, true, true, true] : Array Bool) = #[b0, b1, b2, b3, b4, b5, b6, b7, b8, b9, b10, b11, b12] := he
         simp only [Array.mk.injEq, List.cons.injEq, and_true] at he
         obtain ⟨rfl, rfl, rfl, rfl, rfl, rfl, rfl, rfl, rfl, rfl, rfl, rfl, rfl⟩ := he
         simp only [cond_true]
         have hO := hF.r3 rfl
         have HE : Hid (Y.take k ++ [x] ++ Y.drop k = ordX (X.take (i + 1)) ∧ (Y.take k ++ [x] ++ Y.drop k).length ≤ i + 1 ∧ Rowee V w.heap.size x60 (Y.take k ++ [x] ++ Y.drop k) ∧ Below w.heap.size w V) := Lib.hid ⟨by rw [HXI.out, ← HY.out]; exact HK.out.symm, by rw [List.length_append, List.length_append, HTL.out, HDL.out]; have := HYL.out; simp; omega, own_base hO HB9.out.size, HB9.out.trans (hF.bel.mono HB9.out.size)⟩
         clear hF h0 hO hX5
         go_upto_region 9 with fail
         refine wl <| gzv (.int .i64 (i + 1 : Nat)) (add_one rfl i (by have := HN.out; omega) (by kernel_rfl) _) <| gz1 (.int .i64 (i + 1 : Nat)) <| wn ?_
         simp only [pu]
         go_wp2_with fail
         go_roundg (n - (i + 1))
         case measure => have := HGK.out; omega
         case rel => exact ⟨i + 1, _, _, rfl, rfl, by omega, by omega, HE⟩
      ·skip
       have hpp : bfP y.1 x.1 = false := by unfold bfP; simp only [decide_eq_false hp1, decide_eq_false hp2]; rfl
       go_upto_region 6 with fail
       refine wp_region_class (C := fun U => Below wr.heap.size wr U) (by kernel_rfl) (by kernel_rfl) ((Below.refl _ wr).drew) ?_
       refine gy (.int .i64 k) <| gy (.slice (some ⟨bz, oz, none⟩) m c9) <| gy (.int .i64 m) <| gyv (.bool true) (fun U hU => lss_n rfl (k : Int) m dT (by kernel_rfl) (by kernel_rfl) U) <| gy (.bool true) <| gy (.slice (some ⟨bz, oz, none⟩) m c9) <| gy (.int .i64 k) <|
         gyv (.pointer (some ⟨bz, oz + k * 41, none⟩)) (fun U hU => idx_en bz oz m c9 k (by omega) U _ _ rfl (by kernel_rfl) (by kernel_rfl)) <| gy (.pointer (some ⟨bz, oz + k * 41 + 36, none⟩)) <|
         gyl rfl ⟨bz, oz + k * 41 + 36, none⟩ (.int .u64 y.1.pri) (fun U hU => rg_cell (rg_below hr9 hU) (j := 36) rfl (by kernel_rfl)) <| gy (.pointer (some ⟨g5, 36, none⟩)) <|
         gyl rfl ⟨g5, 36, none⟩ (.int .u64 x.1.pri) (fun U hU => rg_cell (bx_range (hX5.below hX5.lt hU)) (j := 36) rfl (by kernel_rfl)) <| gyv (.bool false) (fun U hU => lss_w rfl y.1.pri x.1.pri (decide_eq_false hp1) (by kernel_rfl) (by kernel_rfl) U) <| gy (.bool false) <|
         gy (.slice (some ⟨bz, oz, none⟩) m c9) <| gy (.int .i64 k) <| gyv (.pointer (some ⟨bz, oz + k * 41, none⟩)) (fun U hU => idx_en bz oz m c9 k (by omega) U _ _ rfl (by kernel_rfl) (by kernel_rfl)) <| gy (.pointer (some ⟨bz, oz + k * 41 + 36, none⟩)) <|
         gyl rfl ⟨bz, oz + k * 41 + 36, none⟩ (.int .u64 y.1.pri) (fun U hU => rg_cell (rg_below hr9 hU) (j := 36) rfl (by kernel_rfl)) <| gy (.pointer (some ⟨g5, 36, none⟩)) <|
         gyl rfl ⟨g5, 36, none⟩ (.int .u64 x.1.pri) (fun U hU => rg_cell (bx_range (hX5.below hX5.lt hU)) (j := 36) rfl (by kernel_rfl)) <| gyv (.bool false) (fun U hU => eql_w rfl y.1.pri x.1.pri (decide_eq_false hp2) (by kernel_rfl) (by kernel_rfl) U) <| gy (.bool false) <| gyn <| gyn <| gyn <|
         gyn <| gyn <| gyn <| gyn <| gyn <| gy (.bool false) <| gy (.bool false) <| gy (.bool false) ?_
       simp only [pu]
       apply wpQuiet_nil
       intro V6 hV6
       have hr6 := rg_below hr9 hV6
       clear hr9
       have hr9 := hr6
       clear hr6
       have HW2 : Hid (Below V2.heap.size V2 V6 ∧ ∀ j, j < k → bfP (Y.getD j zEA).1 x.1 = true) := Lib.hid ⟨HW.out.1.trans (hV6.mono HW.out.1.size), HW.out.2⟩
       have hX6 := hX5.below hX5.lt hV6
       clear hV6 HW hX5
       have HW := HW2
       have hX5 := hX6
       clear hX6
       generalize V6 = wr at *
       clear HW2
       have HK : Hid (insX Y x = Y.take k ++ [x] ++ Y.drop k) := Lib.hid (by
        rw [insX_at Y x k (by rw [HM.out]; exact hkm) HW.out.2 (fun _ => by rw [HYY.out]; exact hpp), List.append_assoc]
        rfl)
       have HTL : Hid ((Y.take k).length = k) := Lib.hid (by rw [List.length_take, HM.out]; omega)
       have HDL : Hid ((Y.drop k).length = m - k) := Lib.hid (by rw [List.length_drop, HM.out])
       have HB9 := Lib.hid (HR2.out.trans (HW.out.1.mono HR2.out.size))
       have HO9 : Hid (∀ U, Below wr.heap.size wr U → Cs U (some ⟨bz, oz, none⟩) (ens Y)) := Lib.hid fun U hU => by
        obtain ⟨a8, c8, e8, h8, -⟩ := (show Rowee U w.heap.size (.slice (some ⟨bz, oz, none⟩) m c9) Y from (HO2.out.below HW.out.1).below hU).cs
        simp only [Value.slice.injEq] at e8
        rw [e8.1]
        exact h8
       have hc9 := HC9.out
       have h0 := CH.start wr x (Y.take k) (Y.take k ++ [x]) (Y.take k ++ [x] ++ Y.drop k) u49 u53 u56 u60 u55
       generalize wr = V7 at *
       clear HW HO2 HX5 HGI
       go_upto_region 8 with fail
       refine wp_region_inv (fun listed act9 V => ∃ b0 b1 b2 b3 b4 b5 b6 b7 b8 b9 b10 b11 b12 : Bool, ∃ x49 x53 x55 x56 x60 : Value, listed = #[b0, b1, b2, b3, b4, b5, b6, b7, b8, b9, b10, b11, b12] ∧ act9 = { tmps := #[.slice (some ⟨b, off, none⟩) n c, undef, .slice none 0 0, (cond b12 (x60) (.slice (some ⟨bz, oz, none⟩) m c9)), undef, .pointer (some ⟨g5, 0, none⟩), .int .i64 k, .slice (some ⟨b, off, none⟩) n c, .int .i64 n, .int .i64 i, .bool true, .pointer (some ⟨b, off + i * 41, none⟩), .agg (enA x.1 x.2), .int .i64 k, .slice (some ⟨bz, oz, none⟩) m c9, .int .i64 m, .bool true, .bool true, .slice (some ⟨bz, oz, none⟩) m c9, .int .i64 k, .pointer (some ⟨bz, oz + k * 41, none⟩), .pointer (some ⟨bz, oz + k * 41 + 36, none⟩), .int .u64 y.1.pri, .pointer (some ⟨g5, 36, none⟩), .int .u64 x.1.pri, .bool false, .bool false, .slice (some ⟨bz, oz, none⟩) m c9, .int .i64 k, .pointer (some ⟨bz, oz + k * 41, none⟩), .pointer (some ⟨bz, oz + k * 41 + 36, none⟩), .int .u64 y.1.pri, .pointer (some ⟨g5, 36, none⟩), .int .u64 x.1.pri, .bool false, .bool false, undef, undef, undef, undef, undef, undef, undef, undef, .bool false, .bool false, .bool false, u47, u48, x49, (cond b1 (.slice (some ⟨bz, oz, none⟩) m c9) (u50)), (cond b2 (.int .i64 k) (u51)), (cond b3 (.slice (some ⟨bz, oz, none⟩) k c9) (u52)), x53, (cond b5 (.agg (enA x.1 x.2)) (u54)), x55, x56, (cond b8 (.slice (some ⟨bz, oz, none⟩) m c9) (u57)), (cond b9 (.int .i64 k) (u58)), (cond b10 (.slice (fromS 41 (some ⟨bz, oz, none⟩) c9 k) (m - k) (c9 - k)) (u59)), x60, u61, undef], defers := [] } ∧ CH V7 x (Y.take k) (Y.take k ++ [x]) (Y.take k ++ [x] ++ Y.drop k) b0 b4 b7 b11 b6 x49 x53 x56 x60 x55 V ∧ (b12 = true → b11 = true) ∧ OD b1 b3 b4 b8 b10 b11) (by kernel_rfl) (by kernel_rfl) ?_ ?_ ?_
       ·exact ⟨false, false, false, false, false, false, false, false, false, false, false, false, false, u49, u53, u55, u56, u60, rfl, rfl, h0, fun h => (by cases h), OD.z⟩
       ·intro i9 listed act9 V hi9 hr hJ
        obtain ⟨b0, b1, b2, b3, b4, b5, b6, b7, b8, b9, b10, b11, b12, x49, x53, x55, x56, x60, rfl, rfl, hF, hA, hD⟩ := hJ
        have hi2 : i9 < 13 := hi9
        have hi3 : i9 = 0 ∨ i9 = 1 ∨ i9 = 2 ∨ i9 = 3 ∨ i9 = 4 ∨ i9 = 5 ∨ i9 = 6 ∨ i9 = 7 ∨ i9 = 8 ∨ i9 = 9 ∨ i9 = 10 ∨ i9 = 11 ∨ i9 = 12 := by omega
        rcases hi3 with rfl | rfl | rfl | rfl | rfl | rfl | rfl | rfl | rfl | rfl | rfl | rfl | rfl
        ·obtain rfl : b0 = false := ready_self hr
         obtain rfl : b4 = false := by cases b4; rfl; exact absurd (hF.c1 rfl) (by decide)
         obtain rfl : b7 = false := by cases b7; rfl; exact absurd (hF.c2 rfl) (by decide)
         obtain rfl : b11 = false := by cases b11; rfl; exact absurd (hF.c3 rfl) (by decide)
         refine st_build rfl (by kernel_rfl) (some 49) rfl 22 0 #[] rfl #[] (by kernel_rfl) (.slice (some ⟨V.heap.size, 0, none⟩) 0 0) _ (nil_ee V) ?_
         exact ⟨true, b1, b2, b3, false, b5, b6, false, b8, b9, b10, false, b12, _, x53, x55, x56, x60, rfl, rfl, hF.nil, hA, ⟨hD.a, hD.b, hD.c, hD.d⟩⟩
        ·obtain rfl : b1 = false := ready_self hr
         obtain rfl : b12 = false := by cases b12; rfl; exact absurd (hD.a (hD.b (hF.c2 (hF.c3 (hA rfl))))) (by decide)
         refine st_val rfl (by kernel_rfl) (some 50) rfl (.slice (some ⟨bz, oz, none⟩) m c9) V (by kernel_rfl) ?_
         exact ⟨b0, true, b2, b3, b4, b5, b6, b7, b8, b9, b10, b11, false, x49, x53, x55, x56, x60, rfl, rfl, hF, hA, ⟨fun _ => rfl, hD.b, hD.c, hD.d⟩⟩
        ·obtain rfl : b2 = false := ready_self hr
         refine st_val rfl (by kernel_rfl) (some 51) rfl (.int .i64 k) V (by kernel_rfl) ?_
         exact ⟨b0, b1, true, b3, b4, b5, b6, b7, b8, b9, b10, b11, b12, x49, x53, x55, x56, x60, rfl, rfl, hF, hA, ⟨hD.a, hD.b, hD.c, hD.d⟩⟩
        ·obtain rfl : b3 = false := ready_self hr
         obtain rfl : b1 = true := ready_dep hr 1 (by kernel_rfl)
         obtain rfl : b2 = true := ready_dep hr 2 (by kernel_rfl)
         refine st_slice_to rfl (by kernel_rfl) (some 52) rfl 22 (.tmp 50) (.tmp 51) rfl (.slice (some ⟨bz, oz, none⟩) m c9) (.int .i64 (k : Int)) (.slice (some ⟨bz, oz, none⟩) k c9) (by kernel_rfl) (by kernel_rfl) (cut_ee_to (some ⟨bz, oz, none⟩) m c9 k V (by omega)) ?_
         exact ⟨b0, true, true, true, b4, b5, b6, b7, b8, b9, b10, b11, b12, x49, x53, x55, x56, x60, rfl, rfl, hF, hA, ⟨fun _ => rfl, fun _ => rfl, hD.c, hD.d⟩⟩
        ·obtain rfl : b4 = false := ready_self hr
         obtain rfl : b0 = true := ready_dep hr 0 (by kernel_rfl)
         obtain rfl : b3 = true := ready_dep hr 3 (by kernel_rfl)
         obtain rfl : b7 = false := by cases b7; rfl; exact absurd (hF.c2 rfl) (by decide)
         obtain rfl : b11 = false := by cases b11; rfl; exact absurd (hF.c3 rfl) (by decide)
         have hO := hF.r0 rfl rfl
         obtain ⟨v, V2, hap, hO2, hb2, hg2, hat2⟩ := Row.app hO hF.bel.size (some ⟨bz, oz, none⟩) k c9 (Y.take k) (by rw [← ens_take]; exact (HO9.out _ hF.bel).take _) HTL.out (by simp only [List.length_nil]; have := HYL.out; have := HN.out; omega)
         refine st_append rfl (by kernel_rfl) (some 53) rfl 22 rfl (.tmp 49) (.tmp 52) 22 rfl x49 (.slice (some ⟨bz, oz, none⟩) k c9) v V2 (by kernel_rfl) (by kernel_rfl) hap ?_
         exact ⟨true, b1, b2, true, true, b5, b6, false, b8, b9, b10, false, b12, x49, v, x55, x56, x60, rfl, rfl, hF.one (by rw [List.nil_append] at hO2; exact hO2) hb2 hg2 hat2, hA, ⟨hD.a, fun _ => rfl, hD.c, hD.d⟩⟩
        ·obtain rfl : b5 = false := ready_self hr
         refine st_load rfl (by kernel_rfl) (some 54) rfl 50 (.tmp 5) rfl ⟨g5, 0, none⟩ (.agg (enA x.1 x.2)) (by kernel_rfl) (load_en (bx_range (hX5.below hX5.lt hF.bel))) ?_
         exact ⟨b0, b1, b2, b3, b4, true, b6, b7, b8, b9, b10, b11, b12, x49, x53, x55, x56, x60, rfl, rfl, hF, hA, ⟨hD.a, hD.b, hD.c, hD.d⟩⟩
        ·obtain rfl : b6 = false := ready_self hr
         obtain rfl : b5 = true := ready_dep hr 5 (by kernel_rfl)
         refine st_build rfl (by kernel_rfl) (some 55) rfl 22 1 #[(0, .tmp 54)] rfl #[(0, .agg (enA x.1 x.2))] (by kernel_rfl) (.slice (some ⟨V.heap.size, 0, none⟩) 1 1) _ (build_ee x V) ?_
         exact ⟨b0, b1, b2, b3, b4, true, true, b7, b8, b9, b10, b11, b12, x49, x53, _, x56, x60, rfl, rfl, hF.key, hA, ⟨hD.a, hD.b, hD.c, hD.d⟩⟩
        ·obtain rfl : b7 = false := ready_self hr
         obtain rfl : b4 = true := ready_dep hr 4 (by kernel_rfl)
         obtain rfl : b6 = true := ready_dep hr 6 (by kernel_rfl)
         obtain rfl : b11 = false := by cases b11; rfl; exact absurd (hF.c3 rfl) (by decide)
         have hO := hF.r1 rfl rfl
         obtain ⟨gq, rfl, hgx, -⟩ := hF.kx rfl
         have hgc := ens_of hgx
         obtain ⟨v, V2, hap, hO2, hb2, hg2, hat2⟩ := Row.app hO hF.bel.size (some ⟨gq, 0, none⟩) 1 1 [x] hgc rfl (by rw [HTL.out]; have := HYL.out; have := HN.out; omega)
         refine st_append rfl (by kernel_rfl) (some 56) rfl 22 rfl (.tmp 53) (.tmp 55) 22 rfl x53 (.slice (some ⟨gq, 0, none⟩) 1 1) v V2 (by kernel_rfl) (by kernel_rfl) hap ?_
         exact ⟨b0, b1, b2, b3, true, b5, true, true, b8, b9, b10, false, b12, x49, x53, _, v, x60, rfl, rfl, hF.two hO2 hb2 hg2 hat2, hA, ⟨hD.a, hD.b, hD.c, hD.d⟩⟩
        ·obtain rfl : b8 = false := ready_self hr
         obtain rfl : b12 = false := by cases b12; rfl; exact absurd (hD.c (hD.d (hA rfl))) (by decide)
         refine st_val rfl (by kernel_rfl) (some 57) rfl (.slice (some ⟨bz, oz, none⟩) m c9) V (by kernel_rfl) ?_
         exact ⟨b0, b1, b2, b3, b4, b5, b6, b7, true, b9, b10, b11, false, x49, x53, x55, x56, x60, rfl, rfl, hF, hA, ⟨hD.a, hD.b, fun _ => rfl, hD.d⟩⟩
        ·obtain rfl : b9 = false := ready_self hr
         refine st_val rfl (by kernel_rfl) (some 58) rfl (.int .i64 k) V (by kernel_rfl) ?_
         exact ⟨b0, b1, b2, b3, b4, b5, b6, b7, b8, true, b10, b11, b12, x49, x53, x55, x56, x60, rfl, rfl, hF, hA, ⟨hD.a, hD.b, hD.c, hD.d⟩⟩
        ·obtain rfl : b10 = false := ready_self hr
         obtain rfl : b8 = true := ready_dep hr 8 (by kernel_rfl)
         obtain rfl : b9 = true := ready_dep hr 9 (by kernel_rfl)
         refine st_slice_from rfl (by kernel_rfl) (some 59) rfl 22 (.tmp 57) (.tmp 58) rfl (.slice (some ⟨bz, oz, none⟩) m c9) (.int .i64 ((k : Nat) : Int)) (.slice (fromS 41 (some ⟨bz, oz, none⟩) c9 k) (m - k) (c9 - k)) (by kernel_rfl) (by kernel_rfl) (cut_ee_from (some ⟨bz, oz, none⟩) m c9 (k) V (by omega)) ?_
         exact ⟨b0, b1, b2, b3, b4, b5, b6, b7, true, true, true, b11, b12, x49, x53, x55, x56, x60, rfl, rfl, hF, hA, ⟨hD.a, hD.b, fun _ => rfl, fun _ => rfl⟩⟩
        ·obtain rfl : b11 = false := ready_self hr
         obtain rfl : b7 = true := ready_dep hr 7 (by kernel_rfl)
         obtain rfl : b10 = true := ready_dep hr 10 (by kernel_rfl)
         obtain rfl : b12 = false := by cases b12; rfl; exact absurd (hA rfl) (by decide)
         have hO := hF.r2 rfl rfl
         obtain ⟨v, V2, hap, hO2, hb2, hg2, hat2⟩ := Row.app hO hF.bel.size (fromS 41 (some ⟨bz, oz, none⟩) c9 k) (m - k) (c9 - k) (Y.drop k) (by rw [← ens_drop]; exact (HO9.out _ hF.bel).from 41 c9 k (by rw [ens_len, HM.out]; omega)) HDL.out (by rw [List.length_append, HTL.out]; simp only [List.length_cons, List.length_nil]; have := HYL.out; have := HN.out; omega)
         refine st_append rfl (by kernel_rfl) (some 60) rfl 22 rfl (.tmp 56) (.tmp 59) 22 rfl x56 (.slice (fromS 41 (some ⟨bz, oz, none⟩) c9 k) (m - k) (c9 - k)) v V2 (by kernel_rfl) (by kernel_rfl) hap ?_
         exact ⟨b0, b1, b2, b3, b4, b5, b6, true, b8, b9, true, true, false, x49, x53, x55, x56, v, rfl, rfl, hF.three hO2 hb2 hg2 hat2, fun h => (by cases h), ⟨hD.a, hD.b, hD.c, fun _ => rfl⟩⟩
        ·obtain rfl : b12 = false := ready_self hr
         obtain rfl : b11 = true := ready_dep hr 11 (by kernel_rfl)
         refine st_val rfl (by kernel_rfl) (some 3) rfl (x60) V (by kernel_rfl) ?_
         exact ⟨b0, b1, b2, b3, b4, b5, b6, b7, b8, b9, b10, true, true, x49, x53, x55, x56, x60, rfl, rfl, hF, fun _ => rfl, ⟨hD.a, hD.b, hD.c, hD.d⟩⟩
       ·intro act9 V hJ
        obtain ⟨b0, b1, b2, b3, b4, b5, b6, b7, b8, b9, b10, b11, b12, x49, x53, x55, x56, x60, he, rfl, hF, hA, hD⟩ := hJ
        have he : (#[true, true, true, true, true, true, true, true, true, true, true, true, true] : Array Bool) = #[b0, b1, b2, b3, b4, b5, b6, b7, b8, b9, b10, b11, b12] := he
        simp only [Array.mk.injEq, List.cons.injEq, and_true] at he
        obtain ⟨rfl, rfl, rfl, rfl, rfl, rfl, rfl, rfl, rfl, rfl, rfl, rfl, rfl⟩ := he
        simp only [cond_true]
        have hO := hF.r3 rfl
        have HE : Hid (Y.take k ++ [x] ++ Y.drop k = ordX (X.take (i + 1)) ∧ (Y.take k ++ [x] ++ Y.drop k).length ≤ i + 1 ∧ Rowee V w.heap.size x60 (Y.take k ++ [x] ++ Y.drop k) ∧ Below w.heap.size w V) := Lib.hid ⟨by rw [HXI.out, ← HY.out]; exact HK.out.symm, by rw [List.length_append, List.length_append, HTL.out, HDL.out]; have := HYL.out; simp; omega, own_base hO HB9.out.size, HB9.out.trans (hF.bel.mono HB9.out.size)⟩
        clear hF h0 hO hX5
        go_upto_region 9 with fail
        refine wl <| gzv (.int .i64 (i + 1 : Nat)) (add_one rfl i (by have := HN.out; omega) (by kernel_rfl) _) <| gz1 (.int .i64 (i + 1 : Nat)) <| wn ?_
        simp only [pu]
        go_wp2_with fail
        go_roundg (n - (i + 1))
        case measure => have := HGK.out; omega
        case rel => exact ⟨i + 1, _, _, rfl, rfl, by omega, by omega, HE⟩
    ·skip
     go_upto_region 6 with fail
     refine wp_region_class (C := fun U => Below wr.heap.size wr U) (by kernel_rfl) (by kernel_rfl) ((Below.refl _ wr).drew) ?_
     refine gy (.int .i64 k) <| gy (.slice a9 m c9) <| gy (.int .i64 m) <| gyv (.bool false) (fun U hU => lss_n rfl (k : Int) m dF (by kernel_rfl) (by kernel_rfl) U) <| gy (.bool false) <| gyn <| gyn <| gyn <| gyn <| gyn <| gyn <| gyn <| gyn <| gyn <| gyn <| gyn <| gyn <| gyn <| gyn <| gyn <| gyn <|
       gyn <| gyn <| gyn <| gyn <| gyn <| gyn <| gyn <| gyn <| gyn <| gyn <| gyn <| gyn <| gy (.bool false) ?_
     simp only [pu]
     apply wpQuiet_nil
     intro V6 hV6
     have HW2 : Hid (Below V2.heap.size V2 V6 ∧ ∀ j, j < k → bfP (Y.getD j zEA).1 x.1 = true) := Lib.hid ⟨HW.out.1.trans (hV6.mono HW.out.1.size), HW.out.2⟩
     have hX6 := hX5.below hX5.lt hV6
     clear hV6 HW hX5
     have HW := HW2
     have hX5 := hX6
     clear hX6
     generalize V6 = wr at *
     clear HW2
     have HK : Hid (insX Y x = Y.take k ++ [x] ++ Y.drop k) := Lib.hid (by
      rw [insX_at Y x k (by rw [HM.out]; exact hkm) HW.out.2 (fun h => absurd h (by rw [HM.out]; exact hk0)), List.append_assoc]
      rfl)
     have HTL : Hid ((Y.take k).length = k) := Lib.hid (by rw [List.length_take, HM.out]; omega)
     have HDL : Hid ((Y.drop k).length = m - k) := Lib.hid (by rw [List.length_drop, HM.out])
     have HB9 := Lib.hid (HR2.out.trans (HW.out.1.mono HR2.out.size))
     have HO9 : Hid (∀ U, Below wr.heap.size wr U → Cs U a9 (ens Y)) := Lib.hid fun U hU => by
      obtain ⟨a8, c8, e8, h8, -⟩ := (show Rowee U w.heap.size (.slice a9 m c9) Y from (HO2.out.below HW.out.1).below hU).cs
      simp only [Value.slice.injEq] at e8
      rw [e8.1]
      exact h8
     have hc9 := HC9.out
     have h0 := CH.start wr x (Y.take k) (Y.take k ++ [x]) (Y.take k ++ [x] ++ Y.drop k) u49 u53 u56 u60 u55
     generalize wr = V7 at *
     clear HW HO2 HX5 HGI
     go_upto_region 8 with fail
     refine wp_region_inv (fun listed act9 V => ∃ b0 b1 b2 b3 b4 b5 b6 b7 b8 b9 b10 b11 b12 : Bool, ∃ x49 x53 x55 x56 x60 : Value, listed = #[b0, b1, b2, b3, b4, b5, b6, b7, b8, b9, b10, b11, b12] ∧ act9 = { tmps := #[.slice (some ⟨b, off, none⟩) n c, undef, .slice none 0 0, (cond b12 (x60) (.slice a9 m c9)), undef, .pointer (some ⟨g5, 0, none⟩), .int .i64 k, .slice (some ⟨b, off, none⟩) n c, .int .i64 n, .int .i64 i, .bool true, .pointer (some ⟨b, off + i * 41, none⟩), .agg (enA x.1 x.2), .int .i64 k, .slice a9 m c9, .int .i64 m, .bool false, .bool false, undef, undef, undef, undef, undef, undef, undef, undef, undef, undef, undef, undef, undef, undef, undef, undef, undef, undef, undef, undef, undef, undef, undef, undef, undef, undef, undef, undef, .bool false, u47, u48, x49, (cond b1 (.slice a9 m c9) (u50)), (cond b2 (.int .i64 k) (u51)), (cond b3 (.slice a9 k c9) (u52)), x53, (cond b5 (.agg (enA x.1 x.2)) (u54)), x55, x56, (cond b8 (.slice a9 m c9) (u57)), (cond b9 (.int .i64 k) (u58)), (cond b10 (.slice (fromS 41 a9 c9 k) (m - k) (c9 - k)) (u59)), x60, u61, undef], defers := [] } ∧ CH V7 x (Y.take k) (Y.take k ++ [x]) (Y.take k ++ [x] ++ Y.drop k) b0 b4 b7 b11 b6 x49 x53 x56 x60 x55 V ∧ (b12 = true → b11 = true) ∧ OD b1 b3 b4 b8 b10 b11) (by kernel_rfl) (by kernel_rfl) ?_ ?_ ?_
     ·exact ⟨false, false, false, false, false, false, false, false, false, false, false, false, false, u49, u53, u55, u56, u60, rfl, rfl, h0, fun h => (by cases h), OD.z⟩
     ·intro i9 listed act9 V hi9 hr hJ
      obtain ⟨b0, b1, b2, b3, b4, b5, b6, b7, b8, b9, b10, b11, b12, x49, x53, x55, x56, x60, rfl, rfl, hF, hA, hD⟩ := hJ
      have hi2 : i9 < 13 := hi9
      have hi3 : i9 = 0 ∨ i9 = 1 ∨ i9 = 2 ∨ i9 = 3 ∨ i9 = 4 ∨ i9 = 5 ∨ i9 = 6 ∨ i9 = 7 ∨ i9 = 8 ∨ i9 = 9 ∨ i9 = 10 ∨ i9 = 11 ∨ i9 = 12 := by omega
      rcases hi3 with rfl | rfl | rfl | rfl | rfl | rfl | rfl | rfl | rfl | rfl | rfl | rfl | rfl
      ·obtain rfl : b0 = false := ready_self hr
       obtain rfl : b4 = false := by cases b4; rfl; exact absurd (hF.c1 rfl) (by decide)
       obtain rfl : b7 = false := by cases b7; rfl; exact absurd (hF.c2 rfl) (by decide)
       obtain rfl : b11 = false := by cases b11; rfl; exact absurd (hF.c3 rfl) (by decide)
       refine st_build rfl (by kernel_rfl) (some 49) rfl 22 0 #[] rfl #[] (by kernel_rfl) (.slice (some ⟨V.heap.size, 0, none⟩) 0 0) _ (nil_ee V) ?_
       exact ⟨true, b1, b2, b3, false, b5, b6, false, b8, b9, b10, false, b12, _, x53, x55, x56, x60, rfl, rfl, hF.nil, hA, ⟨hD.a, hD.b, hD.c, hD.d⟩⟩
      ·obtain rfl : b1 = false := ready_self hr
       obtain rfl : b12 = false := by cases b12; rfl; exact absurd (hD.a (hD.b (hF.c2 (hF.c3 (hA rfl))))) (by decide)
       refine st_val rfl (by kernel_rfl) (some 50) rfl (.slice a9 m c9) V (by kernel_rfl) ?_
       exact ⟨b0, true, b2, b3, b4, b5, b6, b7, b8, b9, b10, b11, false, x49, x53, x55, x56, x60, rfl, rfl, hF, hA, ⟨fun _ => rfl, hD.b, hD.c, hD.d⟩⟩
      ·obtain rfl : b2 = false := ready_self hr
       refine st_val rfl (by kernel_rfl) (some 51) rfl (.int .i64 k) V (by kernel_rfl) ?_
       exact ⟨b0, b1, true, b3, b4, b5, b6, b7, b8, b9, b10, b11, b12, x49, x53, x55, x56, x60, rfl, rfl, hF, hA, ⟨hD.a, hD.b, hD.c, hD.d⟩⟩
      ·obtain rfl : b3 = false := ready_self hr
       obtain rfl : b1 = true := ready_dep hr 1 (by kernel_rfl)
       obtain rfl : b2 = true := ready_dep hr 2 (by kernel_rfl)
       refine st_slice_to rfl (by kernel_rfl) (some 52) rfl 22 (.tmp 50) (.tmp 51) rfl (.slice a9 m c9) (.int .i64 (k : Int)) (.slice a9 k c9) (by kernel_rfl) (by kernel_rfl) (cut_ee_to a9 m c9 k V (by omega)) ?_
       exact ⟨b0, true, true, true, b4, b5, b6, b7, b8, b9, b10, b11, b12, x49, x53, x55, x56, x60, rfl, rfl, hF, hA, ⟨fun _ => rfl, fun _ => rfl, hD.c, hD.d⟩⟩
      ·obtain rfl : b4 = false := ready_self hr
       obtain rfl : b0 = true := ready_dep hr 0 (by kernel_rfl)
       obtain rfl : b3 = true := ready_dep hr 3 (by kernel_rfl)
       obtain rfl : b7 = false := by cases b7; rfl; exact absurd (hF.c2 rfl) (by decide)
       obtain rfl : b11 = false := by cases b11; rfl; exact absurd (hF.c3 rfl) (by decide)
       have hO := hF.r0 rfl rfl
       obtain ⟨v, V2, hap, hO2, hb2, hg2, hat2⟩ := Row.app hO hF.bel.size a9 k c9 (Y.take k) (by rw [← ens_take]; exact (HO9.out _ hF.bel).take _) HTL.out (by simp only [List.length_nil]; have := HYL.out; have := HN.out; omega)
       refine st_append rfl (by kernel_rfl) (some 53) rfl 22 rfl (.tmp 49) (.tmp 52) 22 rfl x49 (.slice a9 k c9) v V2 (by kernel_rfl) (by kernel_rfl) hap ?_
       exact ⟨true, b1, b2, true, true, b5, b6, false, b8, b9, b10, false, b12, x49, v, x55, x56, x60, rfl, rfl, hF.one (by rw [List.nil_append] at hO2; exact hO2) hb2 hg2 hat2, hA, ⟨hD.a, fun _ => rfl, hD.c, hD.d⟩⟩
      ·obtain rfl : b5 = false := ready_self hr
       refine st_load rfl (by kernel_rfl) (some 54) rfl 50 (.tmp 5) rfl ⟨g5, 0, none⟩ (.agg (enA x.1 x.2)) (by kernel_rfl) (load_en (bx_range (hX5.below hX5.lt hF.bel))) ?_
       exact ⟨b0, b1, b2, b3, b4, true, b6, b7, b8, b9, b10, b11, b12, x49, x53, x55, x56, x60, rfl, rfl, hF, hA, ⟨hD.a, hD.b, hD.c, hD.d⟩⟩
      ·obtain rfl : b6 = false := ready_self hr
       obtain rfl : b5 = true := ready_dep hr 5 (by kernel_rfl)
       refine st_build rfl (by kernel_rfl) (some 55) rfl 22 1 #[(0, .tmp 54)] rfl #[(0, .agg (enA x.1 x.2))] (by kernel_rfl) (.slice (some ⟨V.heap.size, 0, none⟩) 1 1) _ (build_ee x V) ?_
       exact ⟨b0, b1, b2, b3, b4, true, true, b7, b8, b9, b10, b11, b12, x49, x53, _, x56, x60, rfl, rfl, hF.key, hA, ⟨hD.a, hD.b, hD.c, hD.d⟩⟩
      ·obtain rfl : b7 = false := ready_self hr
       obtain rfl : b4 = true := ready_dep hr 4 (by kernel_rfl)
       obtain rfl : b6 = true := ready_dep hr 6 (by kernel_rfl)
       obtain rfl : b11 = false := by cases b11; rfl; exact absurd (hF.c3 rfl) (by decide)
       have hO := hF.r1 rfl rfl
       obtain ⟨gq, rfl, hgx, -⟩ := hF.kx rfl
       have hgc := ens_of hgx
       obtain ⟨v, V2, hap, hO2, hb2, hg2, hat2⟩ := Row.app hO hF.bel.size (some ⟨gq, 0, none⟩) 1 1 [x] hgc rfl (by rw [HTL.out]; have := HYL.out; have := HN.out; omega)
       refine st_append rfl (by kernel_rfl) (some 56) rfl 22 rfl (.tmp 53) (.tmp 55) 22 rfl x53 (.slice (some ⟨gq, 0, none⟩) 1 1) v V2 (by kernel_rfl) (by kernel_rfl) hap ?_
       exact ⟨b0, b1, b2, b3, true, b5, true, true, b8, b9, b10, false, b12, x49, x53, _, v, x60, rfl, rfl, hF.two hO2 hb2 hg2 hat2, hA, ⟨hD.a, hD.b, hD.c, hD.d⟩⟩
      ·obtain rfl : b8 = false := ready_self hr
       obtain rfl : b12 = false := by cases b12; rfl; exact absurd (hD.c (hD.d (hA rfl))) (by decide)
       refine st_val rfl (by kernel_rfl) (some 57) rfl (.slice a9 m c9) V (by kernel_rfl) ?_
       exact ⟨b0, b1, b2, b3, b4, b5, b6, b7, true, b9, b10, b11, false, x49, x53, x55, x56, x60, rfl, rfl, hF, hA, ⟨hD.a, hD.b, fun _ => rfl, hD.d⟩⟩
      ·obtain rfl : b9 = false := ready_self hr
       refine st_val rfl (by kernel_rfl) (some 58) rfl (.int .i64 k) V (by kernel_rfl) ?_
       exact ⟨b0, b1, b2, b3, b4, b5, b6, b7, b8, true, b10, b11, b12, x49, x53, x55, x56, x60, rfl, rfl, hF, hA, ⟨hD.a, hD.b, hD.c, hD.d⟩⟩
      ·obtain rfl : b10 = false := ready_self hr
       obtain rfl : b8 = true := ready_dep hr 8 (by kernel_rfl)
       obtain rfl : b9 = true := ready_dep hr 9 (by kernel_rfl)
       refine st_slice_from rfl (by kernel_rfl) (some 59) rfl 22 (.tmp 57) (.tmp 58) rfl (.slice a9 m c9) (.int .i64 ((k : Nat) : Int)) (.slice (fromS 41 a9 c9 k) (m - k) (c9 - k)) (by kernel_rfl) (by kernel_rfl) (cut_ee_from a9 m c9 (k) V (by omega)) ?_
       exact ⟨b0, b1, b2, b3, b4, b5, b6, b7, true, true, true, b11, b12, x49, x53, x55, x56, x60, rfl, rfl, hF, hA, ⟨hD.a, hD.b, fun _ => rfl, fun _ => rfl⟩⟩
      ·obtain rfl : b11 = false := ready_self hr
       obtain rfl : b7 = true := ready_dep hr 7 (by kernel_rfl)
       obtain rfl : b10 = true := ready_dep hr 10 (by kernel_rfl)
       obtain rfl : b12 = false := by cases b12; rfl; exact absurd (hA rfl) (by decide)
       have hO := hF.r2 rfl rfl
       obtain ⟨v, V2, hap, hO2, hb2, hg2, hat2⟩ := Row.app hO hF.bel.size (fromS 41 a9 c9 k) (m - k) (c9 - k) (Y.drop k) (by rw [← ens_drop]; exact (HO9.out _ hF.bel).from 41 c9 k (by rw [ens_len, HM.out]; omega)) HDL.out (by rw [List.length_append, HTL.out]; simp only [List.length_cons, List.length_nil]; have := HYL.out; have := HN.out; omega)
       refine st_append rfl (by kernel_rfl) (some 60) rfl 22 rfl (.tmp 56) (.tmp 59) 22 rfl x56 (.slice (fromS 41 a9 c9 k) (m - k) (c9 - k)) v V2 (by kernel_rfl) (by kernel_rfl) hap ?_
       exact ⟨b0, b1, b2, b3, b4, b5, b6, true, b8, b9, true, true, false, x49, x53, x55, x56, v, rfl, rfl, hF.three hO2 hb2 hg2 hat2, fun h => (by cases h), ⟨hD.a, hD.b, hD.c, fun _ => rfl⟩⟩
      ·obtain rfl : b12 = false := ready_self hr
       obtain rfl : b11 = true := ready_dep hr 11 (by kernel_rfl)
       refine st_val rfl (by kernel_rfl) (some 3) rfl (x60) V (by kernel_rfl) ?_
       exact ⟨b0, b1, b2, b3, b4, b5, b6, b7, b8, b9, b10, true, true, x49, x53, x55, x56, x60, rfl, rfl, hF, fun _ => rfl, ⟨hD.a, hD.b, hD.c, hD.d⟩⟩
     ·intro act9 V hJ
      obtain ⟨b0, b1, b2, b3, b4, b5, b6, b7, b8, b9, b10, b11, b12, x49, x53, x55, x56, x60, he, rfl, hF, hA, hD⟩ := hJ
      have he : (#[true, true, true, true, true, true, true, true, true, true, true, true, true] : Array Bool) = #[b0, b1, b2, b3, b4, b5, b6, b7, b8, b9, b10, b11, b12] := he
      simp only [Array.mk.injEq, List.cons.injEq, and_true] at he
      obtain ⟨rfl, rfl, rfl, rfl, rfl, rfl, rfl, rfl, rfl, rfl, rfl, rfl, rfl⟩ := he
      simp only [cond_true]
      have hO := hF.r3 rfl
      have HE : Hid (Y.take k ++ [x] ++ Y.drop k = ordX (X.take (i + 1)) ∧ (Y.take k ++ [x] ++ Y.drop k).length ≤ i + 1 ∧ Rowee V w.heap.size x60 (Y.take k ++ [x] ++ Y.drop k) ∧ Below w.heap.size w V) := Lib.hid ⟨by rw [HXI.out, ← HY.out]; exact HK.out.symm, by rw [List.length_append, List.length_append, HTL.out, HDL.out]; have := HYL.out; simp; omega, own_base hO HB9.out.size, HB9.out.trans (hF.bel.mono HB9.out.size)⟩
      clear hF h0 hO hX5
      go_upto_region 9 with fail
      refine wl <| gzv (.int .i64 (i + 1 : Nat)) (add_one rfl i (by have := HN.out; omega) (by kernel_rfl) _) <| gz1 (.int .i64 (i + 1 : Nat)) <| wn ?_
      simp only [pu]
      go_wp2_with fail
      go_roundg (n - (i + 1))
      case measure => have := HGK.out; omega
      case rel => exact ⟨i + 1, _, _, rfl, rfl, by omega, by omega, HE⟩
  ·skip
   obtain rfl : i = n := by omega
   go_upto_region 3 with fail
   refine wl <| gzb (lss_n rfl (i) (i) dF) <| wn ?_
   simp only [pu]
   have hY := HR.out.1
   rw [List.take_of_length_le (by have := HXN.out; omega)] at hY
   have h9 := HR.out.2.2.1
   rw [HM.out, hY] at h9
   have HE := Lib.hid (HNEW.out wr _ HR.out.2.2.2 h9)
   clear HR hY h9 HNEW
   go_upto_region 10 with fail
   refine wl <| gz2 (.slice a9 m c9) (.slice a9 m c9) <| wn ?_
   simp only [pu]
   go_wp2_with fail
   go_ret
   exact HE.out
theorem add_w {ρ : Operand → Value} {o : Oper} {x y : Operand} (ho : o.op = .binOp .add 3 x y 3) (a b : Int) (hx : ρ x = .int .i64 a) (hy : ρ y = .int .i64 b) (w : World) : (execOp ρ o).run Try.prog w = .ok (.value (.int .i64 (IntKind.i64.wrap (a + b)))) w := by
 unfold execOp
 simp only [ho, hx, hy]
 go_simp
/-- raw's sum, as its ints go. -/
def szW (e : En) : Int := IntKind.i64.wrap (IntKind.i64.wrap ((e.raw.length : Int) + e.snd.size) + e.prs.length)
def szV (n : Int) (L : List En) : Int := L.foldl (fun s e => IntKind.i64.wrap (s + szW e)) n
theorem szV_step (n : Int) (L : List En) (i : Nat) (h : i < L.length) : szV n (L.take (i + 1)) = IntKind.i64.wrap (szV n (L.take i) + szW (L.getD i zEn)) := by
 rw [← take_snoc L i h, List.getD_eq_getElem?_getD, List.getElem?_eq_getElem h]
 unfold szV
 rw [List.foldl_append]
 rfl
set_option maxRecDepth 100000 in
set_option maxHeartbeats 8000000 in
theorem k_raw {w : World} {a : Option Addr} {c : Nat} {X : List (En × Ad)} (h : Xr w a X) (hl : X.length ≤ 977343669105) : Calls Try.prog 8 #[.slice a X.length c] w fun e w' => e = .returned (.bool (decide (szV X.length (lE X) < 200))) ∧ Below w.heap.size w w' := by
 have HRNG : Hid (∀ V, Below w.heap.size w V → ∀ i, i < X.length → ∃ b off, a = some ⟨b, off, none⟩ ∧ V.rangeAt b (off + i * 41) (enp (X.getD i zEA))) := Lib.hid fun V hV i hi => by
  obtain ⟨b, off, h1, -, h2⟩ := (h.below hV).rg hi
  exact ⟨b, off, h1, h2⟩
 have HL := lE_at X
 have HLL := lE_len X
 generalize lE X = L at *
 have HKX : Hid (∀ i, i < X.length → (L.getD i zEn) = (X.getD i zEA).1) := Lib.hid HL
 obtain ⟨n, hn⟩ : ∃ n, X.length = n := ⟨_, rfl⟩
 rw [hn] at HRNG HLL HKX hl ⊢
 have HN := Lib.hid hl
 have HLN := Lib.hid HLL
 have HST := Lib.hid (Below.refl w.heap.size w)
 clear h hn HL HLL hl
 go_enter Try.func8, Try.ntmps8
 go_upto_region 1 with fail
 refine wl <| gz3 (.slice a n c) (.int .i64 n) (.int .i64 n) <| wn ?_
 simp only [pu]
 go_upto_region 2 with fail
 refine wl <| gz3 (.slice a n c) (.int .i64 n) (.int .i64 0) <| wn ?_
 simp only [pu]
 go_wp2_with fail
 go_loopg [3, 10] n (fun gg s3 s10 wx => ∃ (i : Nat) (cn : Int), s10 = .int .i64 i ∧ s3 = .int .i64 cn ∧ i ≤ n ∧ gg + i = n ∧ Hid (cn = szV n (L.take i)) ∧ Hid (Below w.heap.size w wx))
 case atStart => exact ⟨0, n, rfl, rfl, by omega, by omega, Lib.hid rfl, HST⟩
 case round =>
  obtain ⟨i, cn, rfl, rfl, hin, hg, HC, HR⟩ := hrel
  clear HST
  have HGK : Hid (gk + i = n) := Lib.hid hg
  clear hg
  by_cases hlt : i < n
  ·skip
   obtain ⟨b, off, hbb, hrg⟩ := HRNG.out wr HR.out i hlt
   obtain rfl := hbb
   have hkx := HKX.out i hlt
   obtain ⟨x, hx⟩ : ∃ x, X.getD i zEA = x := ⟨_, rfl⟩
   rw [hx] at hrg hkx
   obtain ⟨V2, hst2, hb2, hX5⟩ := new_bx (c := enA zEn zAd) (c' := enA x.1 x.2) (ty := 50) wr rfl (enA_one _ _) (by kernel_rfl)
   have HR2 := Lib.hid (HR.out.trans (hb2.mono HR.out.size))
   have hs := szV_step n L i (by have := HLN.out; omega)
   rw [hkx] at hs
   have HS := Lib.hid hs
   clear hx hkx HR hs
   go_upto_region 3 with fail
   refine wl <| gzb (lss_n rfl (i) (n) dT) <| wn ?_
   simp only [pu]
   go_upto_region 4 with fail
   refine wl <| gzv (.pointer (some ⟨b, off + i * 41, none⟩)) (idx_en b off n c i hlt _ _ _ rfl (by kernel_rfl) (by kernel_rfl)) <| gzl rfl ⟨b, off + i * 41, none⟩ (.agg (enA x.1 x.2)) (load_en hrg) ?_
   simp only [pu]
   refine run_to rfl (some 5) rfl (.pointer (some ⟨wr.heap.size, 0, none⟩)) (wr.alloc (.cells (enA zEn zAd) 50)) (by kernel_rfl) ?_
   simp only [pu]
   refine gzs rfl (hst2) <| wn ?_
   obtain ⟨g5, hg5⟩ : ∃ g, wr.heap.size = g := ⟨_, rfl⟩
   rw [hg5] at hX5 ⊢
   clear hst2 hb2 hrg hg5
   go_upto_region 5 with fail
   refine wl <| gz2 (.int .i64 cn) (.pointer (some ⟨g5, 32, none⟩)) <| gzl rfl ⟨g5, 32, none⟩ (.slice x.2.ra x.1.raw.length x.2.rc) (rg_cell (bx_range hX5) (j := 32) rfl (by kernel_rfl)) <| gz2 (.int .i64 x.1.raw.length) (.pointer (some ⟨g5, 33, none⟩)) <|
    gzl rfl ⟨g5, 33, none⟩ (.string x.1.snd) (rg_cell (bx_range hX5) (j := 33) rfl (by kernel_rfl)) <| gz1 (.int .i64 x.1.snd.size) <|
    gzw (.int .i64 (IntKind.i64.wrap ((x.1.raw.length : Int) + x.1.snd.size))) (add_w rfl _ _) <| gz1 (.pointer (some ⟨g5, 40, none⟩)) <|
    gzl rfl ⟨g5, 40, none⟩ (.slice x.2.pa x.1.prs.length x.2.pc) (rg_cell (bx_range hX5) (j := 40) rfl (by kernel_rfl)) <| gz1 (.int .i64 x.1.prs.length) <|
    gzw (.int .i64 (szW x.1)) (add_w rfl _ _) <|
    gzw (.int .i64 (IntKind.i64.wrap (cn + szW x.1))) (add_w rfl _ _) <|
    gz1 (.int .i64 (IntKind.i64.wrap (cn + szW x.1))) <| wn ?_
   simp only [pu]
   clear hX5
   go_upto_region 6 with fail
   refine wl <| gzv (.int .i64 (i + 1 : Nat)) (add_one rfl i (by have := HN.out; omega) (by kernel_rfl) _) <| gz1 (.int .i64 (i + 1 : Nat)) <| wn ?_
   simp only [pu]
   go_wp2_with fail
   go_roundg (n - (i + 1))
   case measure => have := HGK.out; omega
   case rel => exact ⟨i + 1, _, rfl, rfl, by omega, by omega, Lib.hid (by rw [HS.out, HC.out]), HR2⟩
  ·skip
   obtain rfl : i = n := by omega
   go_upto_region 3 with fail
   refine wl <| gzb (lss_n rfl (i) (i) dF) <| wn ?_
   simp only [pu]
   have hcn := HC.out
   rw [List.take_of_length_le (by have := HLN.out; omega)] at hcn
   obtain ⟨q, hq⟩ : ∃ q : Bool, decide (cn < 200) = q := ⟨_, rfl⟩
   have HE : Hid (q = decide (szV i L < 200)) := Lib.hid (by rw [← hq, hcn])
   clear hcn
   go_upto_region 7 with fail
   refine wl <| gz1 (.int .i64 cn) <| gzw (.bool q) (lss_n rfl cn 200 hq) <| gz1 (.bool q) <| wn ?_
   simp only [pu]
   go_wp2_with fail
   go_ret
   exact ⟨congrArg (fun q => Ending.returned (Value.bool q)) HE.out, HR.out⟩
end Go.Proofs.Ytgkckblcekbafaa.Bg
