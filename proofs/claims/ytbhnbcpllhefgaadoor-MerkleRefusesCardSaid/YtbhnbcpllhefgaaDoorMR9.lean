/-
  The contract of the statements' own leaves.
-/
import Derived.Test.YtbhnbcpllhefgaaDoorMR8
namespace Go.Proofs.YtbhnbcpllhefgaaDoor
open Go.RowKit

/-- The leaves that the statements make of bytes. -/
def lvL (L : List Int) (i : Nat) : List (List Int) := (List.range i).map fun j => if j < L.length then [L.getD j 0] else [(j : Int)]
theorem lvL_len (L : List Int) (i : Nat) : (lvL L i).length = i := by simp [lvL]
theorem lvL_next (L : List Int) (i : Nat) : lvL L (i + 1) = lvL L i ++ [if i < L.length then [L.getD i 0] else [(i : Int)]] := by
  simp [lvL, List.range_succ]

/-- An address lies below a block. -/
def Lo (a : Option Addr) (n : Nat) : Prop := ∀ x, a = some x → x.block < n
/-- A row of slices of the call's own. -/
def OwnS (w : World) (B : Nat) (v : Value) (ls : List (List Int)) : Prop := ∃ vs : List Value, w.ownsRow B 25 1 v ls.length vs ∧ ∀ i, i < ls.length → ∃ ai ci, vs[i]? = some (.slice ai (ls.getD i []).length ci) ∧ Sl w ai ci (ls.getD i []) ∧ (ls.getD i []).length ≤ ci ∧ (∀ x, x ∈ ls.getD i [] → W8 x) ∧ (ls.getD i []).length ≤ 300000 ∧ Lo ai w.heap.size ∧ (∀ g, v.ownBlock = some g → Off ai g)
theorem OwnS.nil (w : World) (B : Nat) : OwnS w B (.slice none 0 0) [] := ⟨[], World.ownsRow_nil _ _ _ _, fun i hi => by cases hi⟩
theorem OwnS.lt {w : World} {B : Nat} {v : Value} {ls : List (List Int)} (h : OwnS w B v ls) : ∀ g, v.ownBlock = some g → B ≤ g ∧ g < w.heap.size := by
  obtain ⟨vs, how, -⟩ := h
  exact how.lt
theorem OwnS.below {w w' : World} {B : Nat} {v : Value} {ls : List (List Int)} (h : OwnS w B v ls) (hb : Below w.heap.size w w') : OwnS w' B v ls := by
  obtain ⟨vs, how, hel⟩ := h
  refine ⟨vs, own_below how hb, fun i hi => ?_⟩
  obtain ⟨ai, ci, e1, e2, e3, e4, e5, e6, e7⟩ := hel i hi
  exact ⟨ai, ci, e1, sl_below e2 hb, e3, e4, e5, fun y hy => Nat.lt_of_lt_of_le (e6 y hy) hb.size, e7⟩
theorem OwnS.rb {w : World} {B : Nat} {v : Value} {ls : List (List Int)} (h : OwnS w B v ls) : ∃ a c, v = .slice a ls.length c ∧ RB w a ls ∧ ls.length ≤ c := by
  obtain ⟨vs, how, hel⟩ := h
  rcases how.2 with ⟨rfl, h0⟩ | ⟨g, cap, cur, rfl, hb, hg, hcap, hm, hcs, htk⟩
  · exact ⟨none, 0, by rw [h0], fun i hi => by omega, by omega⟩
  · refine ⟨some ⟨g, 0, none⟩, cap, rfl, fun i hi => ?_, hcap⟩
    obtain ⟨ai, ci, e1, e2, e3, e4, e5, e6, e7⟩ := hel i hi
    refine ⟨g, 0, ai, ci, rfl, (Array.getElem?_eq_some_iff.1 hg).1, ?_, e2, e3, e4, e5⟩
    have := how.cells (g := g) rfl i _ e1
    rw [Go.WideShapes.add_plain] at this
    exact this
theorem sl_grown {w w' : World} {r : Option Nat} {a : Option Addr} {c : Nat} {L : List Int} (h : w.grownBy w' r) (hs : Sl w a c L) (ho : ∀ g, r = some g → Off a g) : Sl w' a c L := by
  rcases hs with hn | ⟨x, rfl, hx⟩
  · exact .inl hn
  · refine .inr ⟨x, rfl, fun k hk => ?_⟩
    obtain ⟨b, off, rfl, hc⟩ := hx k hk
    exact ⟨b, off, rfl, h.cell hc (fun e => ho b e.symm _ rfl rfl)⟩
/-- A slice is appended to a row of the call's own. -/
theorem append_row {w : World} {B : Nat} {v : Value} {ls : List (List Int)} (hO : OwnS w B v ls) (x : List Int) (ai : Option Addr) (ci g : Nat) (hg : w.cell? ⟨g, 0, none⟩ = some (.slice ai x.length ci)) (hs : Sl w ai ci x) (hc : x.length ≤ ci) (h8 : ∀ y, y ∈ x → W8 y) (h3 : x.length ≤ 300000) (hlo : Lo ai w.heap.size) (hoff : ∀ g, v.ownBlock = some g → Off ai g) (hB : B ≤ w.heap.size) (hl : ls.length ≤ 1000) :
    ∃ v' w', (Builtin.append_ #[22, 22] 22 #[v, .slice (some ⟨g, 0, none⟩) 1 1]).run Tryd.prog w = .ok v' w' ∧ OwnS w' B v' (ls ++ [x]) ∧ Below B w w' := by
  obtain ⟨vs, how, hel⟩ := hO
  obtain ⟨i0, hi, hz0, hz1, hz2⟩ := info_parts info22
  have hu : Tryd.prog.underlying 22 = some (.slice 25) := by kernel_rfl
  have hn : ∀ j u, [Value.slice ai x.length ci][j]? = some u → w.cell? ((⟨g, 0, none⟩ : Addr).add j) = some u := fun j u hj => by
    cases j with
    | zero =>
      simp only [List.getElem?_cons_zero, Option.some.injEq] at hj
      rw [← hj, Go.WideShapes.add_plain]
      exact hg
    | succ j => simp at hj
  obtain ⟨v', w', hr, h2, h3', h4, h5⟩ := run_append_own_at (P := Tryd.prog) w B 22 22 25 i0 _ 1 24 hu hi hz0 hz1 hz2 rfl (by decide) v ls.length vs how ⟨g, 0, none⟩ 1 1 [.slice ai x.length ci] rfl hn (by simp [Value.oneCell']) (by unfold maxLen; omega) (by omega) hB
  have hsz := h3'.size
  have hoff' : ∀ b, Lo b w.heap.size → (∀ g, v.ownBlock = some g → Off b g) → ∀ g, v'.ownBlock = some g → Off b g := fun b k1 k2 g hg => by
    rcases h5 with h5 | h5
    · exact k2 g (by rw [← h5]; exact hg)
    · rw [h5] at hg
      cases hg
      exact fun y hy => Nat.ne_of_lt (k1 y hy)
  refine ⟨v', w', hr, ⟨vs ++ [.slice ai x.length ci], by rw [List.length_append]; exact h2, fun i hi' => ?_⟩, (Below.refl _ w).grown h3' hB (fun j hj => (how.lt j hj).1)⟩
  have hvl : vs.length = ls.length := by have := how.1; omega
  by_cases hlt : i < ls.length
  · obtain ⟨aj, cj, e1, e2, e3, e4, e5, e6, e7⟩ := hel i hlt
    have q : (ls ++ [x]).getD i [] = ls.getD i [] := by simp [List.getD, List.getElem?_append_left hlt]
    rw [q]
    exact ⟨aj, cj, by rw [List.getElem?_append_left (by omega)]; exact e1, sl_grown h3' e2 e7, e3, e4, e5, fun y hy => Nat.lt_of_lt_of_le (e6 y hy) hsz, hoff' aj e6 e7⟩
  · obtain rfl : i = ls.length := by simp at hi'; omega
    have q : (ls ++ [x]).getD ls.length [] = x := by simp [List.getD]
    rw [q]
    exact ⟨ai, ci, by rw [← hvl]; simp, sl_grown h3' hs hoff, hc, h8, h3, fun y hy => Nat.lt_of_lt_of_le (hlo y hy) hsz, hoff' ai hlo hoff⟩
theorem build_row (ai : Option Addr) (n ci : Nat) (w : World) : (Instr.buildSlice 22 1 #[(0, .slice ai n ci)]).run Tryd.prog w = .ok (.slice (some ⟨w.heap.size, 0, none⟩) 1 1) (w.alloc (.cells #[.slice ai n ci] 25)) := by
  obtain ⟨i0, hi, hz0, hz1, hz2⟩ := info_parts info22
  refine run_buildSlice w 22 25 1 _ #[.slice ai n ci] i0 _ (by kernel_rfl) hi hz0 (by rw [hz1]; omega) (by rw [hz1]; omega) ?_
  rw [hz1]
  kernel_rfl

set_option maxRecDepth 100000 in
set_option maxHeartbeats 4000000 in
theorem leaves_any (L : List Int) (al : Option Addr) (ca : Nat) (n : Int) (k : Nat) (w : World) (hs : Sl w al ca L) (hc : L.length ≤ ca) (h8 : ∀ x, x ∈ L → W8 x) (_hL : L.length ≤ 100000) (_hn : 0 ≤ n) (hk : n.tmod 20 = (k : Int)) (hk2 : k < 20) :
    Calls Tryd.prog 9 #[.slice al L.length ca, .int .u8 n] w fun e w' => ∃ v, e = .returned v ∧ (∃ a c, v = .slice a k c ∧ RB w' a (lvL L k) ∧ k ≤ c) ∧ Below w.heap.size w w' := by
  have hw1 : IntKind.u8.wrap (k : Int) = (k : Int) := by rw [IntKind.wrap_u8]; omega
  have hw2 : IntKind.i64.wrap (k : Int) = (k : Int) := by rw [IntKind.wrap_i64]; omega
  have HS := Lib.hid hs
  have H8 := Lib.hid h8
  have HC := Lib.hid hc
  clear hs h8 hc
  generalize hl : L.length = m at *
  have HL := Lib.hid hl
  clear hl
  go_enter Tryd.func9, Tryd.ntmps9
  go_wp2_with fail
  go_loopg [5, 6] k (fun g s5 s6 wx => ∃ (i : Nat), i ≤ k ∧ s6 = .int .i64 i ∧ OwnS wx w.heap.size s5 (lvL L i) ∧ Below w.heap.size w wx ∧ k - i = g)
  case atStart => exact ⟨0, by omega, rfl, OwnS.nil _ _, Below.refl _ _, rfl⟩
  case round =>
    obtain ⟨i, hi, rfl, hO, hb, hgk⟩ := hrel
    obtain ⟨a5, c5, rfl, hR, hcc⟩ := hO.rb
    rw [lvL_len] at hO hcc ⊢
    by_cases hlt : i < k
    · clear hR hcc
      have hb1 := hb.alloc hb.size (.cells #[.int .u8 (i : Int)] 5)
      have hb0 := (Below.refl _ wr).alloc (Nat.le_refl _) (.cells #[.int .u8 (i : Int)] 5)
      have hO1 := hO.below hb0
      have hnx := lvL_next L i
      have hu8 : IntKind.u8.wrap (i : Int) = (i : Int) := by rw [IntKind.wrap_u8]; omega
      by_cases him : i < m
      · have hca : i < ca := by have := HC.out; omega
        have hnc : ¬ ca = i := by omega
        have hS0 := sl_take (sl_from HS.out i (by rw [HL.out]; exact HC.out)) 1
        have h1 : (L.drop i).take 1 = [L.getD i 0] := by
          rw [List.drop_eq_getElem_cons (by rw [HL.out]; exact him), List.take_succ_cons, List.take_zero]
          simp [List.getD, List.getElem?_eq_getElem (show i < L.length by rw [HL.out]; exact him)]
        rw [h1] at hS0
        have hS := sl_below hS0 hb1
        have hx8 : W8 (L.getD i 0) := H8.out _ (by rw [getD_lt _ _ _ (by rw [HL.out]; exact him)]; exact List.getElem_mem _)
        have hlo0 : Lo (fromA al ca i) w.heap.size := by
          obtain ⟨b, off, rfl, hb9, -⟩ := sl_at HS.out (k := i) (by rw [HL.out]; exact him)
          intro y hy
          unfold fromA at hy
          rw [if_neg hnc] at hy
          simp only [Option.map_some, Option.some.injEq] at hy
          rw [← hy, Addr.add_mid]
          exact hb9
        have hlo : Lo (fromA al ca i) (wr.alloc (.cells #[.int .u8 (i : Int)] 5)).heap.size := fun y hy => Nat.lt_of_lt_of_le (hlo0 y hy) hb1.size
        have hoff : ∀ g, (Value.slice a5 i c5).ownBlock = some g → Off (fromA al ca i) g := fun g hg y hy => by have a1 := (hO.lt g hg).1; have a2 := hlo0 y hy; omega
        rw [if_pos (by rw [HL.out]; exact him)] at hnx
        have hfm : Option.map (fun x => x.add i) al = fromA al ca i := by unfold fromA; rw [if_neg hnc]
        have HFM := Lib.hid hfm
        clear hfm hlo0 hS0 h1
        go_upto_region 8 with fail
        rw [HFM.out]
        clear HFM
        generalize fromA al ca i = ai at *
        generalize wr.alloc (.cells #[.int .u8 (i : Int)] 5) = W at *
        have hb2 := hb1.alloc hb1.size (.cells #[.slice ai 1 (ca - i)] 25)
        have hO2 := hO1.below ((Below.refl _ W).alloc (Nat.le_refl _) (.cells #[.slice ai 1 (ca - i)] 25))
        have hS2 := sl_below hS ((Below.refl _ W).alloc (Nat.le_refl _) (.cells #[.slice ai 1 (ca - i)] 25))
        have hbs := build_row ai 1 (ca - i) W
        obtain ⟨v2, w3, hap, hO4, hb5⟩ := append_row hO2 [L.getD i 0] ai (ca - i) W.heap.size (by simp) hS2 (by rw [List.length_singleton]; omega) (fun y hy => by rw [List.mem_singleton.1 hy]; exact hx8) (by simp) (fun y hy => by have := hlo y hy; simp; omega) hoff hb2.size (by rw [lvL_len]; omega)
        have hb6 := hb2.trans hb5
        apply wp_region_lit
        refine gw_val (by kernel_rfl) (some 27) rfl (.slice a5 i c5) (by kernel_rfl) ?_
        simp only [Act.put, List.setIfInBounds_toArray, List.set_cons_succ, List.set_cons_zero]
        refine gw_val (by kernel_rfl) (some 28) rfl (.slice ai 1 (ca - i)) (by kernel_rfl) ?_
        simp only [Act.put, List.setIfInBounds_toArray, List.set_cons_succ, List.set_cons_zero]
        refine gw_build (by kernel_rfl) (some 29) rfl 22 1 #[(0, .tmp 28)] rfl #[(0, .slice ai 1 (ca - i))] (by kernel_rfl) (.slice (some ⟨W.heap.size, 0, none⟩) 1 1) (W.alloc (.cells #[.slice ai 1 (ca - i)] 25)) hbs ?_
        simp only [Act.put, List.setIfInBounds_toArray, List.set_cons_succ, List.set_cons_zero]
        refine append_step rfl (some 30) rfl 22 rfl (.tmp 27) (.tmp 29) 22 rfl (.slice a5 i c5) (.slice (some ⟨W.heap.size, 0, none⟩) 1 1) v2 w3 (by kernel_rfl) (by kernel_rfl) hap ?_
        simp only [Act.put, List.setIfInBounds_toArray, List.set_cons_succ, List.set_cons_zero]
        refine gw_val (by kernel_rfl) (some 5) rfl (v2) (by kernel_rfl) ?_
        simp only [Act.put, List.setIfInBounds_toArray, List.set_cons_succ, List.set_cons_zero]
        apply wpList_nil
        rw [show lvL L i ++ [[L.getD i 0]] = lvL L (i + 1) from hnx.symm] at hO4
        have HO4 := Lib.hid hO4
        have HB6 := Lib.hid hb6
        clear hO4 hb6 hb5 hap hbs hS2 hO2 hb2 hb1 hO1 hnx hoff hlo hS hb hO
        go_wp2_with fail
        go_roundg (k - (i + 1))
        case measure => omega
        case rel => exact ⟨i + 1, by omega, by go_num, HO4.out, HB6.out, rfl⟩
      · have hS : Sl (wr.alloc (.cells #[.int .u8 (i : Int)] 5)) (some ⟨wr.heap.size, 0, none⟩) 1 [(i : Int)] := sl_one _ _ _
        have hlo : Lo (some ⟨wr.heap.size, 0, none⟩) (wr.alloc (.cells #[.int .u8 (i : Int)] 5)).heap.size := fun y hy => by cases hy; simp
        have hoff : ∀ g, (Value.slice a5 i c5).ownBlock = some g → Off (some ⟨wr.heap.size, 0, none⟩) g := fun g hg y hy => by have a1 := (hO.lt g hg).2; cases hy; simp; omega
        have hx8 : W8 (i : Int) := by unfold W8; omega
        rw [if_neg (by rw [HL.out]; exact him)] at hnx
        go_upto_region 8 with fail
        generalize hai : (some ⟨wr.heap.size, 0, none⟩ : Option Addr) = ai at *
        clear hai
        generalize wr.alloc (.cells #[.int .u8 (i : Int)] 5) = W at *
        have hb2 := hb1.alloc hb1.size (.cells #[.slice ai 1 1] 25)
        have hO2 := hO1.below ((Below.refl _ W).alloc (Nat.le_refl _) (.cells #[.slice ai 1 1] 25))
        have hS2 := sl_below hS ((Below.refl _ W).alloc (Nat.le_refl _) (.cells #[.slice ai 1 1] 25))
        have hbs := build_row ai 1 1 W
        obtain ⟨v2, w3, hap, hO4, hb5⟩ := append_row hO2 [(i : Int)] ai 1 W.heap.size (by simp) hS2 (by rw [List.length_singleton]; omega) (fun y hy => by rw [List.mem_singleton.1 hy]; exact hx8) (by simp) (fun y hy => by have := hlo y hy; simp; omega) hoff hb2.size (by rw [lvL_len]; omega)
        have hb6 := hb2.trans hb5
        apply wp_region_lit
        refine gw_val (by kernel_rfl) (some 27) rfl (.slice a5 i c5) (by kernel_rfl) ?_
        simp only [Act.put, List.setIfInBounds_toArray, List.set_cons_succ, List.set_cons_zero]
        refine gw_val (by kernel_rfl) (some 28) rfl (.slice ai 1 1) (by kernel_rfl) ?_
        simp only [Act.put, List.setIfInBounds_toArray, List.set_cons_succ, List.set_cons_zero]
        refine gw_build (by kernel_rfl) (some 29) rfl 22 1 #[(0, .tmp 28)] rfl #[(0, .slice ai 1 1)] (by kernel_rfl) (.slice (some ⟨W.heap.size, 0, none⟩) 1 1) (W.alloc (.cells #[.slice ai 1 1] 25)) hbs ?_
        simp only [Act.put, List.setIfInBounds_toArray, List.set_cons_succ, List.set_cons_zero]
        refine append_step rfl (some 30) rfl 22 rfl (.tmp 27) (.tmp 29) 22 rfl (.slice a5 i c5) (.slice (some ⟨W.heap.size, 0, none⟩) 1 1) v2 w3 (by kernel_rfl) (by kernel_rfl) hap ?_
        simp only [Act.put, List.setIfInBounds_toArray, List.set_cons_succ, List.set_cons_zero]
        refine gw_val (by kernel_rfl) (some 5) rfl (v2) (by kernel_rfl) ?_
        simp only [Act.put, List.setIfInBounds_toArray, List.set_cons_succ, List.set_cons_zero]
        apply wpList_nil
        rw [show lvL L i ++ [[(i : Int)]] = lvL L (i + 1) from hnx.symm] at hO4
        have HO4 := Lib.hid hO4
        have HB6 := Lib.hid hb6
        clear hO4 hb6 hb5 hap hbs hS2 hO2 hb2 hb1 hO1 hnx hoff hlo hS hb hO
        go_wp2_with fail
        go_roundg (k - (i + 1))
        case measure => omega
        case rel => exact ⟨i + 1, by omega, by go_num, HO4.out, HB6.out, rfl⟩
    · obtain rfl : i = k := by omega
      have HR := Lib.hid hR
      have HCC := Lib.hid hcc
      clear hR hcc hO
      go_wp2_with fail
      go_ret
      exact ⟨_, rfl, ⟨_, _, rfl, HR.out, HCC.out⟩, hb⟩
end Go.Proofs.YtbhnbcpllhefgaaDoor
