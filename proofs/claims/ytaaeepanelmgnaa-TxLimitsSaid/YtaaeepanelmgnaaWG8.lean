/-
  The contracts of the reference's writing of a field, and of its size.
  Conditions: as typed.
-/
import Derived.Test.YtaaeepanelmgnaaWG6
namespace Go.Proofs.Ytaaeepanelmgnaa
set_option maxRecDepth 100000
open Go.RowKit

/-- 'append' to a row of the call's own, from whatever source, inside a region that draws its order. -/
theorem step_append_src {P : Program} {w : World} {ops : Array Oper} {o : Oper} {a : Act} {K : Act → World → Prop} {Q : Exit → Act → World → Prop} {E : Prop} (hgd : o.guard = none) (s x : Operand) (t : TypeId)
    (ho : o.op = .call { callee := .builtin .append, args := #[s, x], argTypes := #[t, t] })
    (base : Nat) (i : TypeInfo) (ht : P.underlying t = some (.slice 5)) (hi : P.info? 5 = some i) (hz : i.zero = some (.int .u8 0)) (hsize : i.size = 1) (hby : i.bytes = 1)
    (v : Value) (n : Nat) (xs : List Value) (hs : a.eval s = v) (hown : w.ownsRow base 5 1 v n xs)
    (ad : Option Addr) (m c : Nat) (L : List Int) (hx : a.eval x = .slice ad m c) (hm : L.length = m) (hr : Sl w ad c L) (hb : n + m ≤ 140737488355328) (hbase : base ≤ w.heap.size)
    (h : ∀ v' w', w'.ownsRow base 5 1 v' (n + m) (xs ++ L.map (Value.int .u8)) → w.grownBy w' v.ownBlock → K (a.put o.dst v') w') :
    if Region.wanted o (yielded ops a.tmps) = true then Oper.wp P o a w K Q else E := by
  have hw : Region.wanted o (yielded ops a.tmps) = true := by simp [Region.wanted, hgd]
  rw [if_pos hw]
  subst hm
  rcases hr with ⟨rfl, rfl, rfl⟩ | ⟨y, rfl, hy⟩
  · have hrun := run_append_owned_none (P := P) (w := w) base t o.type 5 i 1 ht hi v n xs hown
    unfold Oper.wp
    simp [execOp, ho, resolve, invoke, builtin, hs, hx, hrun, Result.andThen]
    exact h v w (by simpa using hown) (World.grownBy.refl w _)
  · refine wp_append_own w s x t ho base 5 i (.int .u8 0) 1 1 ht hi hz hsize hby rfl (by decide) v n xs hs hown y L.length c (L.map (Value.int .u8)) hx (by simp) ?_ (ints_oneCell _ _) (by unfold maxLen; omega) (by omega) hbase (fun v' w' h1 h2 _ => h v' w' h1 h2)
    intro j u hj
    have hj' : j < L.length := by
      rcases Nat.lt_or_ge j L.length with h | h
      · exact h
      · rw [List.getElem?_eq_none (by simpa using h)] at hj; cases hj
    obtain ⟨b, off, rfl, hc⟩ := hy j hj'
    rw [Go.WideShapes.add_plain, hc]
    rw [List.getElem?_map, List.getElem?_eq_getElem hj'] at hj
    rw [List.getD_eq_getElem?_getD, List.getElem?_eq_getElem hj']
    exact hj

theorem far_own {w w' : World} {B g o n : Nat} {v u : Value} {xs : List Value} (hgrow : w.grownBy w' v.ownBlock) (ho : w.ownsRow B 5 1 v n xs) (hg : g < B) (hc : w.cell? ⟨g, o, none⟩ = some u) : w'.cell? ⟨g, o, none⟩ = some u := by
  refine hgrow.cell hc (fun e => ?_)
  have := (ho.lt _ e.symm).1
  simp only at this
  omega

set_option maxHeartbeats 2000000 in
theorem ref_field_bad (a : Option Addr) (len c : Nat) (num kind val : Int) (b : Option Addr) (n d : Nat) (w : World) (hv : ¬ Vfi num kind val n) :
    Calls Try.prog 41 #[.slice a len c, .agg #[.int .i64 num, .int .i64 kind, .int .u64 val, .slice b n d]] w fun e w' => e = .returned (.tuple #[.slice none 0 0, .int .i64 1]) ∧ Below w.heap.size w w' := by
  have cV := ref_right num kind val b n d
  rw [vldB_false hv] at cV
  go_enter Try.func41, Try.ntmps41
  go_wp2_with fail
  refine (cV _).mono ?_
  rintro e w1 ⟨rfl, hb1⟩
  have hb := bnext ((Below.refl _ w).alloc (Nat.le_refl _) (.cells #[.int .i64 num, .int .i64 kind, .int .u64 val, .slice b n d] 54)) hb1
  clear cV hb1
  go_wp2
  go_ret2
  exact ⟨rfl, hb⟩

set_option maxHeartbeats 2000000 in
theorem ref_field (a : Option Addr) (c : Nat) (L : List Int) (num kind val : Int) (b : Option Addr) (d : Nat) (B : List Int) (w : World) (hL : L.length ≤ 900000) (hB : B.length ≤ 1000000) (hr : Sl w a c L) (hs : Sl w b d B) (hv : Vfi num kind val B.length) (hw : W64 val) :
    Calls Try.prog 41 #[.slice a L.length c, .agg #[.int .i64 num, .int .i64 kind, .int .u64 val, .slice b B.length d]] w fun e w' => ∃ v, e = .returned (.tuple #[v, .int .i64 0]) ∧ Own w' w.heap.size v (L ++ encI num kind val B) ∧ Below w.heap.size w w' := by
  have cV := ref_right num kind val b B.length d
  rw [vldB_true hv] at cV
  have hn0 := hv.1
  have hn1 := hv.2.1
  have htb : W64 (8 * num + kind) := by unfold W64; unfold Vfi at hv; omega
  have cA := fun w hr => ref_append a c L (8 * num + kind) w (by omega) hr htb
  have hEl := Enc_len (8 * num + kind)
  have hfin : L ++ encI num kind val B = ((L ++ Enc (8 * num + kind)) ++ Enc (secI kind val B.length)) ++ B := by simp [encI]
  have hlen : (L ++ Enc (8 * num + kind)).length ≤ 1000000 := by rw [List.length_append]; omega
  have hx0 := box_new w num kind val b B.length d
  have hb0 := (Below.refl _ w).alloc (Nat.le_refl _) (.cells #[.int .i64 num, .int .i64 kind, .int .u64 val, .slice b B.length d] 54)
  rcases hv.2.2 with ⟨rfl, hb⟩ | ⟨rfl, rfl⟩
  · obtain rfl : B = [] := List.eq_nil_of_length_eq_zero hb
    have hsec : secI 0 val ([] : List Int).length = val := rfl
    rw [hsec, List.append_nil] at hfin
    have cB := fun a c w hr => ref_append a c (L ++ Enc (8 * num + 0)) val w hlen hr hw
    have e8 : 8 * num + 0 = num * 8 := by omega
    rw [e8] at cA hEl hlen hfin
    simp only [e8] at cB
    clear e8 htb
    generalize Enc (num * 8) = E1 at *
    generalize L ++ E1 = M at *
    generalize Enc val = E2 at *
    have HFIN := Lib.hid hfin
    have HR := Lib.hid hr
    clear hfin hr hs hv hsec hb
    go_enter Try.func41, Try.ntmps41
    go_wp2_with fail
    refine (cV _).mono ?_
    rintro e w1 ⟨rfl, hb1⟩
    have hx := hx0.below hb1
    have hb := bnext hb0 hb1
    obtain ⟨k0, k1, k2, k3⟩ := hx
    have k1' : w1.cell? ⟨w.heap.size, 1, none⟩ = some (.int .i64 0) := k1
    have k2' : w1.cell? ⟨w.heap.size, 2, none⟩ = some (.int .u64 val) := k2
    have hlt : w.heap.size < w1.heap.size := Box.lt ⟨k0, k1, k2, k3⟩
    clear cV hb1 k1 k2 k3 hx0 hb0
    go_wp2_with fail
    refine (cA _ (sl_below HR.out hb)).mono ?_
    rintro e w2 ⟨v2, rfl, ho2, hb2⟩
    have hb3 := bnext hb hb2
    have k2 := (hb2.cell (p := ⟨w.heap.size, 2, none⟩) hlt).trans k2'
    have k1 := (hb2.cell (p := ⟨w.heap.size, 1, none⟩) hlt).trans k1'
    obtain ⟨a2, c2, rfl, s2, -⟩ := Own.sl ho2
    clear k1' k2' k0 hb hb2 ho2 cA
    go_wp2_with fail
    refine (cB _ _ _ s2).mono ?_
    rintro e w3 ⟨v3, rfl, ho3, hb4⟩
    have hb5 := bnext hb3 hb4
    have HO : Hid (Own w3 w.heap.size v3 (L ++ encI num 0 val [])) := by rw [HFIN.out]; exact Lib.hid (Own.base ho3 hb3.size)
    clear cB ho3 hb4 s2
    go_wp2
    go_ret2
    exact ⟨_, rfl, HO.out, hb5⟩
  · have hsec : secI 2 0 B.length = (B.length : Int) := rfl
    rw [hsec] at hfin
    have hwB : W64 (B.length : Int) := by unfold W64; omega
    have cB := fun a c w hr => ref_append a c (L ++ Enc (8 * num + 2)) (B.length : Int) w hlen hr hwB
    have hE2 := Enc_len (B.length : Int)
    have e8 : 8 * num + 2 = num * 8 + 2 := by omega
    rw [e8] at cA hEl hlen hfin
    simp only [e8] at cB
    clear e8 htb
    generalize Enc (num * 8 + 2) = E1 at *
    generalize L ++ E1 = M at *
    have HFIN := Lib.hid hfin
    have HR := Lib.hid hr
    have HS := Lib.hid hs
    have hM2 : (M ++ Enc (B.length : Int)).length ≤ 2000000 := by rw [List.length_append]; omega
    generalize M ++ Enc (B.length : Int) = M2 at *
    obtain ⟨i0, hi, hz0, hz1, hz2⟩ := info_parts info5
    have HI := Lib.hid hi
    have HZ0 := Lib.hid hz0
    have HZ1 := Lib.hid hz1
    have HZ2 := Lib.hid hz2
    clear hfin hr hs hv hsec hi hz0 hz1 hz2 hE2
    go_enter Try.func41, Try.ntmps41
    go_wp2_with fail
    refine (cV _).mono ?_
    rintro e w1 ⟨rfl, hb1⟩
    have hx := hx0.below hb1
    have hb := bnext hb0 hb1
    obtain ⟨k0, k1, k2, k3⟩ := hx
    have k1' : w1.cell? ⟨w.heap.size, 1, none⟩ = some (.int .i64 2) := k1
    have k3' : w1.cell? ⟨w.heap.size, 3, none⟩ = some (.slice b B.length d) := k3
    have hlt : w.heap.size < w1.heap.size := Box.lt ⟨k0, k1, k2, k3⟩
    clear cV hb1 k1 k2 k3 hx0 hb0
    go_wp2_with fail
    refine (cA _ (sl_below HR.out hb)).mono ?_
    rintro e w2 ⟨v2, rfl, ho2, hb2⟩
    have hb3 := bnext hb hb2
    have k3 := (hb2.cell (p := ⟨w.heap.size, 3, none⟩) hlt).trans k3'
    have k1 := (hb2.cell (p := ⟨w.heap.size, 1, none⟩) hlt).trans k1'
    have hlt2 : w.heap.size < w2.heap.size := Nat.lt_of_lt_of_le hlt hb2.size
    obtain ⟨a2, c2, rfl, s2, -⟩ := Own.sl ho2
    clear k1' k3' k0 hb hb2 ho2 cA
    go_wp2_with fail
    have hc1 : M2.length + B.length ≤ 140737488355328 := by omega
    have hwr : IntKind.u64.wrap (B.length : Int) = (B.length : Int) := by rw [IntKind.wrap_u64]; omega
    go_region_held3 (fun wx => wx.cell? ⟨w.heap.size, 3, none⟩ = some (.slice b B.length d)) (first | exact k6 | exact k5 | exact k3) (first
      | (go_at_call 58; refine (cB _ _ w2.drew s2).mono ?_; rintro e w5 ⟨v5, rfl, ho5, hb5⟩; have k5 := (hb5.cell (p := ⟨w.heap.size, 3, none⟩) hlt2).trans k3; have hb6 := bnext hb3.drew hb5)
      | (refine step_append_src rfl _ _ 39 rfl w2.heap.size i0 Try.underlying39 HI.out HZ0.out HZ1.out HZ2.out _ _ _ rfl ho5 b B.length d B rfl rfl (sl_below HS.out hb6) hc1 hb5.size ?_; intro v6 w6 ho6 hgrow; have hb7 := after_append (w0 := w) hb3.size hb6.size ho5 hb6 hgrow; have k6 := far_own hgrow ho5 hlt2 k5))
    have HO : Hid (Own w6 w.heap.size v6 (L ++ encI num 2 0 B)) := by
      rw [HFIN.out]
      show w6.ownsRow _ _ _ _ _ _
      rw [List.length_append, List.map_append]
      exact own_base ho6 hb3.size
    clear cB ho6 hgrow hb6 s2 ho5 hb5
    go_wp2
    go_ret2
    exact ⟨_, rfl, HO.out, hb7⟩

end Go.Proofs.Ytaaeepanelmgnaa
