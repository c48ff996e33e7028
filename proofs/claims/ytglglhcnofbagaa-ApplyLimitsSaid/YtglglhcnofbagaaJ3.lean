/-
  The contracts of the reference's writing of a field, and of its size.
  Conditions: as typed. The contracts of the functions on lists of fields: big, SameFields; and of near at 0.
  Conditions: as typed. Operations one at a time: in a plain region, in a region that draws its order and keeps a class of worlds, and by an invariant. No function of the program. A string as a list of numbers. (Out of stage 5's texts.) UTF-8: the model's decode is the reference's Rune. Rows of cells in memory, of any type: read, cut, appended to. No function of the program.
-/
import Derived.Test.YtglglhcnofbagaaJ2
import Derived.Deep.QuietTactic
import Derived.BigQuiet
import Derived.Test.YtglglhcnofbagaaProg
import Derived.WalkKit
import Derived.WalkSpells
import Derived.WalkLawsBesides
import Derived.Laws.BitsAllLaws
import Derived.Deep.LoopGhost
import Derived.Deep.RegionHeld3
import Derived.Deep.Quiet
import Derived.Deep.Cut
import Derived.Deep.DeepCutAuto
import Derived.Deep.WholeRow
import Derived.Deep.MidRow
import Derived.Deep.Slices
import Derived.Great.BuildSlice
import Derived.Lib.Hide
import Derived.KernelRfl
import Derived.OneCell
import Derived.OpenShut
import Derived.Below
import Derived.Maps.AppendAt
import Derived.Test.YtglglhcnofbagaaJ1
import GoSem.Core.Utf8
import Derived.Deep.Onto
namespace Go.Proofs.Ytglglhcnofbagaa
set_option maxRecDepth 100000
open Go.RowKit

/-- 'append' to a row of the call's own, from whatever source, inside a region that draws its order. -/
theorem step_append_src {P : Program} {w : World} {ops : Array Oper} {o : Oper} {a : Act} {K : Act → World → Prop} {Q : Exit → Act → World → Prop} {E : Prop} (hgd : o.guard = none) (s x : Operand) (t : TypeId)
    (ho : o.op = .call { callee := .builtin .append, args := #[s, x], argTypes := #[t, t] })
    (base : Nat) (i : TypeInfo) (ht : P.underlying t = some (.slice 5)) (hi : P.info? 5 = some i) (hz : i.zero = some (.int .u8 0)) (hsize : i.size = 1) (hby : i.bytes = 1)
    (v : Value) (n : Nat) (xs : List Value) (hs : a.eval s = v) (hown : w.ownsRow base 5 1 v n xs)
    (ad : Option Addr) (m c : Nat) (L : List Int) (hx : a.eval x = .slice ad m c) (hm : L.length = m) (hr : Sl w ad c L) (hb : n + m ≤ 140737488355328) (hbase : base ≤ w.heap.size)
    (h : ∀ v' w', w'.ownsRow base 5 1 v' (n + m) (xs ++ L.map (Value.int .u8)) → w.grownBy w' v.ownBlock → K (a.put o.dst v') w') :
    if Region.wanted o (yielded ops a.tmps) = true then Oper.wp P o a w K Q else E := by
  have hw : Region.wanted o (yielded ops a.tmps) = true := by simp [Region.wanted, hgd]
  rw [if_pos hw]
  subst hm
  rcases hr with ⟨rfl, rfl, rfl⟩ | ⟨y, rfl, hy⟩
  · have hrun := run_append_owned_none (P := P) (w := w) base t o.type 5 i 1 ht hi v n xs hown
    unfold Oper.wp
    simp [execOp, ho, resolve, invoke, builtin, hs, hx, hrun, Result.andThen]
    exact h v w (by simpa using hown) (World.grownBy.refl w _)
  · refine wp_append_own w s x t ho base 5 i (.int .u8 0) 1 1 ht hi hz hsize hby rfl (by decide) v n xs hs hown y L.length c (L.map (Value.int .u8)) hx (by simp) ?_ (ints_oneCell _ _) (by unfold maxLen; omega) (by omega) hbase (fun v' w' h1 h2 _ => h v' w' h1 h2)
    intro j u hj
    have hj' : j < L.length := by
      rcases Nat.lt_or_ge j L.length with h | h
      · exact h
      · rw [List.getElem?_eq_none (by simpa using h)] at hj; cases hj
    obtain ⟨b, off, rfl, hc⟩ := hy j hj'
    rw [Go.WideShapes.add_plain, hc]
    rw [List.getElem?_map, List.getElem?_eq_getElem hj'] at hj
    rw [List.getD_eq_getElem?_getD, List.getElem?_eq_getElem hj']
    exact hj

theorem far_own {w w' : World} {B g o n : Nat} {v u : Value} {xs : List Value} (hgrow : w.grownBy w' v.ownBlock) (ho : w.ownsRow B 5 1 v n xs) (hg : g < B) (hc : w.cell? ⟨g, o, none⟩ = some u) : w'.cell? ⟨g, o, none⟩ = some u := by
  refine hgrow.cell hc (fun e => ?_)
  have := (ho.lt _ e.symm).1
  simp only at this
  omega

set_option maxHeartbeats 2000000 in
theorem ref_field (a : Option Addr) (c : Nat) (L : List Int) (num kind val : Int) (b : Option Addr) (d : Nat) (B : List Int) (w : World) (hL : L.length ≤ 900000) (hB : B.length ≤ 1000000) (hr : Sl w a c L) (hs : Sl w b d B) (hv : Vfi num kind val B.length) (hw : W64 val) :
    Calls Try.prog 47 #[.slice a L.length c, .agg #[.int .i64 num, .int .i64 kind, .int .u64 val, .slice b B.length d]] w fun e w' => ∃ v, e = .returned (.tuple #[v, .int .i64 0]) ∧ Own w' w.heap.size v (L ++ encI num kind val B) ∧ Below w.heap.size w w' := by
  have cV := ref_right num kind val b B.length d
  rw [vldB_true hv] at cV
  have hn0 := hv.1
  have hn1 := hv.2.1
  have htb : W64 (8 * num + kind) := by unfold W64; unfold Vfi at hv; omega
  have cA := fun w hr => ref_append a c L (8 * num + kind) w (by omega) hr htb
  have hEl := Enc_len (8 * num + kind)
  have hfin : L ++ encI num kind val B = ((L ++ Enc (8 * num + kind)) ++ Enc (secI kind val B.length)) ++ B := by simp [encI]
  have hlen : (L ++ Enc (8 * num + kind)).length ≤ 1000000 := by rw [List.length_append]; omega
  have hx0 := box_new w num kind val b B.length d
  have hb0 := (Below.refl _ w).alloc (Nat.le_refl _) (.cells #[.int .i64 num, .int .i64 kind, .int .u64 val, .slice b B.length d] 66)
  rcases hv.2.2 with ⟨rfl, hb⟩ | ⟨rfl, rfl⟩
  · obtain rfl : B = [] := List.eq_nil_of_length_eq_zero hb
    have hsec : secI 0 val ([] : List Int).length = val := rfl
    rw [hsec, List.append_nil] at hfin
    have cB := fun a c w hr => ref_append a c (L ++ Enc (8 * num + 0)) val w hlen hr hw
    have e8 : 8 * num + 0 = num * 8 := by omega
    rw [e8] at cA hEl hlen hfin
    simp only [e8] at cB
    clear e8 htb
    generalize Enc (num * 8) = E1 at *
    generalize L ++ E1 = M at *
    generalize Enc val = E2 at *
    have HFIN := Lib.hid hfin
    have HR := Lib.hid hr
    clear hfin hr hs hv hsec hb
    go_enter Try.func47, Try.ntmps47
    go_wp2_with fail
    refine (cV _).mono ?_
    rintro e w1 ⟨rfl, hb1⟩
    have hx := hx0.below hb1
    have hb := bnext hb0 hb1
    obtain ⟨k0, k1, k2, k3⟩ := hx
    have k1' : w1.cell? ⟨w.heap.size, 1, none⟩ = some (.int .i64 0) := k1
    have k2' : w1.cell? ⟨w.heap.size, 2, none⟩ = some (.int .u64 val) := k2
    have hlt : w.heap.size < w1.heap.size := Box.lt ⟨k0, k1, k2, k3⟩
    clear cV hb1 k1 k2 k3 hx0 hb0
    go_wp2_with fail
    refine (cA _ (sl_below HR.out hb)).mono ?_
    rintro e w2 ⟨v2, rfl, ho2, hb2⟩
    have hb3 := bnext hb hb2
    have k2 := (hb2.cell (p := ⟨w.heap.size, 2, none⟩) hlt).trans k2'
    have k1 := (hb2.cell (p := ⟨w.heap.size, 1, none⟩) hlt).trans k1'
    obtain ⟨a2, c2, rfl, s2, -⟩ := Own.sl ho2
    clear k1' k2' k0 hb hb2 ho2 cA
    go_wp2_with fail
    refine (cB _ _ _ s2).mono ?_
    rintro e w3 ⟨v3, rfl, ho3, hb4⟩
    have hb5 := bnext hb3 hb4
    have HO : Hid (Own w3 w.heap.size v3 (L ++ encI num 0 val [])) := by rw [HFIN.out]; exact Lib.hid (Own.base ho3 hb3.size)
    clear cB ho3 hb4 s2
    go_wp2
    go_ret2
    exact ⟨_, rfl, HO.out, hb5⟩
  · have hsec : secI 2 0 B.length = (B.length : Int) := rfl
    rw [hsec] at hfin
    have hwB : W64 (B.length : Int) := by unfold W64; omega
    have cB := fun a c w hr => ref_append a c (L ++ Enc (8 * num + 2)) (B.length : Int) w hlen hr hwB
    have hE2 := Enc_len (B.length : Int)
    have e8 : 8 * num + 2 = num * 8 + 2 := by omega
    rw [e8] at cA hEl hlen hfin
    simp only [e8] at cB
    clear e8 htb
    generalize Enc (num * 8 + 2) = E1 at *
    generalize L ++ E1 = M at *
    have HFIN := Lib.hid hfin
    have HR := Lib.hid hr
    have HS := Lib.hid hs
    have hM2 : (M ++ Enc (B.length : Int)).length ≤ 2000000 := by rw [List.length_append]; omega
    generalize M ++ Enc (B.length : Int) = M2 at *
    obtain ⟨i0, hi, hz0, hz1, hz2⟩ := info_parts info5
    have HI := Lib.hid hi
    have HZ0 := Lib.hid hz0
    have HZ1 := Lib.hid hz1
    have HZ2 := Lib.hid hz2
    clear hfin hr hs hv hsec hi hz0 hz1 hz2 hE2
    go_enter Try.func47, Try.ntmps47
    go_wp2_with fail
    refine (cV _).mono ?_
    rintro e w1 ⟨rfl, hb1⟩
    have hx := hx0.below hb1
    have hb := bnext hb0 hb1
    obtain ⟨k0, k1, k2, k3⟩ := hx
    have k1' : w1.cell? ⟨w.heap.size, 1, none⟩ = some (.int .i64 2) := k1
    have k3' : w1.cell? ⟨w.heap.size, 3, none⟩ = some (.slice b B.length d) := k3
    have hlt : w.heap.size < w1.heap.size := Box.lt ⟨k0, k1, k2, k3⟩
    clear cV hb1 k1 k2 k3 hx0 hb0
    go_wp2_with fail
    refine (cA _ (sl_below HR.out hb)).mono ?_
    rintro e w2 ⟨v2, rfl, ho2, hb2⟩
    have hb3 := bnext hb hb2
    have k3 := (hb2.cell (p := ⟨w.heap.size, 3, none⟩) hlt).trans k3'
    have k1 := (hb2.cell (p := ⟨w.heap.size, 1, none⟩) hlt).trans k1'
    have hlt2 : w.heap.size < w2.heap.size := Nat.lt_of_lt_of_le hlt hb2.size
    obtain ⟨a2, c2, rfl, s2, -⟩ := Own.sl ho2
    clear k1' k3' k0 hb hb2 ho2 cA
    go_wp2_with fail
    have hc1 : M2.length + B.length ≤ 140737488355328 := by omega
    have hwr : IntKind.u64.wrap (B.length : Int) = (B.length : Int) := by rw [IntKind.wrap_u64]; omega
    go_region_held3 (fun wx => wx.cell? ⟨w.heap.size, 3, none⟩ = some (.slice b B.length d)) (first | exact k6 | exact k5 | exact k3) (first
      | (go_at_call 68; refine (cB _ _ w2.drew s2).mono ?_; rintro e w5 ⟨v5, rfl, ho5, hb5⟩; have k5 := (hb5.cell (p := ⟨w.heap.size, 3, none⟩) hlt2).trans k3; have hb6 := bnext hb3.drew hb5)
      | (refine step_append_src rfl _ _ 29 rfl w2.heap.size i0 Try.underlying29 HI.out HZ0.out HZ1.out HZ2.out _ _ _ rfl ho5 b B.length d B rfl rfl (sl_below HS.out hb6) hc1 hb5.size ?_; intro v6 w6 ho6 hgrow; have hb7 := after_append (w0 := w) hb3.size hb6.size ho5 hb6 hgrow; have k6 := far_own hgrow ho5 hlt2 k5))
    have HO : Hid (Own w6 w.heap.size v6 (L ++ encI num 2 0 B)) := by
      rw [HFIN.out]
      show w6.ownsRow _ _ _ _ _ _
      rw [List.length_append, List.map_append]
      exact own_base ho6 hb3.size
    clear cB ho6 hgrow hb6 s2 ho5 hb5
    go_wp2
    go_ret2
    exact ⟨_, rfl, HO.out, hb7⟩

end Go.Proofs.Ytglglhcnofbagaa
namespace Go.Proofs.Ytglglhcnofbagaa
set_option maxRecDepth 100000
open Go.RowKit

/-- A slice of fields at a reads as the list ps: each field's cells, and its bytes. -/
def Fs (w : World) (a : Option Addr) (ps : List (Fld × Value)) : Prop :=
  ∀ i p, ps[i]? = some p → ∃ b off ba bc, a = some ⟨b, off, none⟩ ∧ p.2 = .slice ba p.1.bytes.length bc ∧ Sl w ba bc p.1.bytes ∧ Box w b (off + i * 4) p.1.num p.1.kind p.1.val ba p.1.bytes.length bc

end Go.Proofs.Ytglglhcnofbagaa
namespace Go.Proofs.Ytglglhcnofbagaa
open Go.RowKit

/-- An operation with a known result. -/
theorem run_to {P : Program} {ops : Array Oper} {rest : List Oper} {o : Oper} {a : Act} {w : World} {Q : Exit → Act → World → Prop} (hgd : o.guard = none) (d : Option Tmp) (hd : o.dst = d)
    (v : Value) (w2 : World) (hr : (execOp a.eval o).run P w = .ok (.value v) w2) (k : wpList P ops Q rest (a.put d v) w2) : wpList P ops Q (o :: rest) a w := by
  rw [← hd] at k
  apply wpList_plain hgd
  intro K hK
  rw [Oper.wp, hr, Oper.upon_value]
  exact hK _ _ k
theorem wp_region_class {P : Program} {id : Nat} {Q : Exit → Act → World → Prop} {a : Act} {w : World} {l : List Oper} (C : World → Prop) (hm : P.follows .mixedOrders = true) (hB : Region.lexB .any l.toArray = true) (hC : C { w with drawn := w.drawn + 1 })
    (h : wpQuiet P l.toArray C (fun a' => ∀ w', C w' → Q .normal a' w') l a) : (Code.region id l.toArray true).wp P Q a w :=
  wp_region_quiet (C := C) hm hB hC (by simpa using h)
/-- 'append' at the operation, its run known. -/
theorem pu1 (a : Act) (t : Tmp) (v : Value) : a.put (some t) v = { a with tmps := a.tmps.setIfInBounds t v } := rfl
theorem pu2 {α : Type} (l : List α) (i : Nat) (x : α) : l.toArray.setIfInBounds i x = (l.set i x).toArray := List.setIfInBounds_toArray ..
theorem pu3 {α : Type} (l : List α) (i : Nat) (x y : α) : (x :: l).set (i + 1) y = x :: l.set i y := rfl
theorem pu4 {α : Type} (l : List α) (x y : α) : (x :: l).set 0 y = y :: l := rfl
theorem append_step {P : Program} {w : World} {ops : Array Oper} {rest : List Oper} {o : Oper} {a : Act} {Q : Exit → Act → World → Prop} (hgd : o.guard = none) (d : Option Tmp) (hd : o.dst = d) (ty : TypeId) (hty : o.type = ty) (s x : Operand) (t : TypeId)
    (ho : o.op = .call { callee := .builtin .append, args := #[s, x], argTypes := #[t, t] }) (v u v' : Value) (w' : World) (hs : a.eval s = v) (hx : a.eval x = u)
    (hr : (Builtin.append_ #[t, t] ty #[v, u]).run P w = .ok v' w') (k : wpList P ops Q rest (a.put d v') w') : wpList P ops Q (o :: rest) a w := by
  subst hd
  subst hty
  refine wpList_plain hgd fun K hK => ?_
  unfold Oper.wp execOp
  simp only [ho, resolve, invoke, builtin, Sem.run_bind, Sem.run_pure, Result.andThen_ok, List.map_toArray, List.map_cons, List.map_nil, hs, hx, hr]
  exact hK _ _ k
section
variable {P : Program} {ops : Array Oper} {rest : List Oper} {o : Oper} {a : Act} {w : World} {Q : Exit → Act → World → Prop}

theorem gw_val (hw : Region.wanted o (yielded ops a.tmps) = true) (d : Option Tmp) (hd : o.dst = d) (v : Value) (hr : (execOp a.eval o).run P w = .ok (.value v) w) (k : wpList P ops Q rest (a.put d v) w) : wpList P ops Q (o :: rest) a w := by
  rw [← hd] at k
  apply wpList_step
  intro K hK
  rw [if_pos hw, Oper.wp, hr, Oper.upon_value]
  exact hK _ _ k
theorem gw_new (hw : Region.wanted o (yielded ops a.tmps) = true) (d : Option Tmp) (hd : o.dst = d) (v : Value) (w2 : World) (hr : (execOp a.eval o).run P w = .ok (.value v) w2) (k : wpList P ops Q rest (a.put d v) w2) : wpList P ops Q (o :: rest) a w := by
  rw [← hd] at k
  apply wpList_step
  intro K hK
  rw [if_pos hw, Oper.wp, hr, Oper.upon_value]
  exact hK _ _ k
theorem gw_not (hw : Region.wanted o (yielded ops a.tmps) = false) (d : Option Tmp) (hd : o.dst = d) (k : wpList P ops Q rest (a.put d undef) w) : wpList P ops Q (o :: rest) a w := by
  rw [← hd] at k
  exact wpList_skip hw k
theorem gw_call (hw : Region.wanted o (yielded ops a.tmps) = true) (d : Option Tmp) (hd : o.dst = d) (f : FuncId) (args : Array Value) (v : Value) (S : World → Prop) (hr : (execOp a.eval o).run P w = .ok (.enter f args) w)
    (hc : Calls P f args w fun e w' => e = .returned v ∧ S w') (k : ∀ w', S w' → wpList P ops Q rest (a.put d v) w') : wpList P ops Q (o :: rest) a w := by
  rw [← hd] at k
  apply wpList_step
  intro K hK
  rw [if_pos hw, Oper.wp, hr]
  refine hc.mono ?_
  rintro e w' ⟨rfl, hS⟩
  exact hK _ _ (k w' hS)
theorem gw_load (hw : Region.wanted o (yielded ops a.tmps) = true) (d : Option Tmp) (hd : o.dst = d) (ty : TypeId) (x : Operand) (ho : o.op = .load ty x) (ad : Addr) (v : Value)
    (hx : a.eval x = .pointer (some ad)) (hl : (Instr.loadAt ty (.pointer (some ad))).run P w = .ok v w) (k : wpList P ops Q rest (a.put d v) w) : wpList P ops Q (o :: rest) a w := by
  refine gw_val hw d hd v ?_ k
  unfold execOp
  simp only [ho, hx, Sem.run_bind, hl]
  rfl
theorem gw_slice_to (hw : Region.wanted o (yielded ops a.tmps) = true) (d : Option Tmp) (hd : o.dst = d) (ty : TypeId) (x h : Operand) (ho : o.op = .slice ty x none (some h) none) (vx vh v : Value) (hx : a.eval x = vx) (hh : a.eval h = vh)
    (hs : (Instr.sliceAt ty vx none (some vh) none).run P w = .ok v w) (k : wpList P ops Q rest (a.put d v) w) : wpList P ops Q (o :: rest) a w := by
  refine gw_val hw d hd v ?_ k
  unfold execOp
  simp only [ho, hx, hh, Option.map_some, Option.map_none, Sem.run_bind, hs]
  rfl
theorem gw_build (hw : Region.wanted o (yielded ops a.tmps) = true) (d : Option Tmp) (hd : o.dst = d) (t : TypeId) (len : Nat) (parts : Array (Nat × Operand)) (ho : o.op = .buildSlice t len parts)
    (vs : Array (Nat × Value)) (hp : (parts.map fun (i, x) => (i, a.eval x)) = vs) (v : Value) (w2 : World) (hr : (Instr.buildSlice t len vs).run P w = .ok v w2) (k : wpList P ops Q rest (a.put d v) w2) : wpList P ops Q (o :: rest) a w := by
  refine gw_new hw d hd v w2 ?_ k
  unfold execOp
  simp only [ho, Sem.run_bind, hp, hr, Result.andThen_ok]
  rfl
end
section
variable {P : Program} {C : World → Prop} {ops : Array Oper} {Q : Act → Prop} {a : Act} {o : Oper} {rest : List Oper}

theorem gq_val (hw : Region.wanted o (yielded ops a.tmps) = true) (d : Option Tmp) (hd : o.dst = d) (v : Value) (hr : ∀ w, C w → (execOp a.eval o).run P w = .ok (.value v) w) (h : wpQuiet P ops C Q rest (a.put d v)) : wpQuiet P ops C Q (o :: rest) a := by
  rw [← hd] at h
  unfold wpQuiet
  rw [if_pos hw]
  refine ⟨v, fun w hC => ?_, h⟩
  unfold Oper.quietAt
  rw [hr w hC]
  exact ⟨rfl, rfl⟩
theorem gq_not (hw : Region.wanted o (yielded ops a.tmps) = false) (d : Option Tmp) (hd : o.dst = d) (h : wpQuiet P ops C Q rest (a.put d undef)) : wpQuiet P ops C Q (o :: rest) a := by
  rw [← hd] at h
  unfold wpQuiet
  rw [if_neg (by rw [hw]; decide)]
  exact h
theorem gq_call (hw : Region.wanted o (yielded ops a.tmps) = true) (d : Option Tmp) (hd : o.dst = d) (f : FuncId) (args : Array Value) (v : Value) (hr : ∀ w, C w → (execOp a.eval o).run P w = .ok (.enter f args) w)
    (hc : ∀ w, C w → Calls P f args w (fun e w'' => e = .returned v ∧ C w'')) (h : wpQuiet P ops C Q rest (a.put d v)) : wpQuiet P ops C Q (o :: rest) a := by
  rw [← hd] at h
  unfold wpQuiet
  rw [if_pos hw]
  refine ⟨v, fun w hC => ?_, h⟩
  unfold Oper.quietAt
  rw [hr w hC]
  exact ⟨rfl, hc w hC⟩
theorem gq_load (hw : Region.wanted o (yielded ops a.tmps) = true) (d : Option Tmp) (hd : o.dst = d) (ty : TypeId) (x : Operand) (ho : o.op = .load ty x) (ad : Addr) (v : Value)
    (hx : a.eval x = .pointer (some ad)) (hl : ∀ w, C w → (Instr.loadAt ty (.pointer (some ad))).run P w = .ok v w) (h : wpQuiet P ops C Q rest (a.put d v)) : wpQuiet P ops C Q (o :: rest) a := by
  refine gq_val hw d hd v (fun w hC => ?_) h
  unfold execOp
  simp only [ho, hx, Sem.run_bind, hl w hC]
  rfl
end
/-- A call whose value is not known beforehand. -/
theorem gw_callE {P : Program} {ops : Array Oper} {rest : List Oper} {o : Oper} {a : Act} {w : World} {Q : Exit → Act → World → Prop} (hw : Region.wanted o (yielded ops a.tmps) = true) (d : Option Tmp) (hd : o.dst = d) (f : FuncId) (args : Array Value) (S : Value → World → Prop) (hr : (execOp a.eval o).run P w = .ok (.enter f args) w)
    (hc : Calls P f args w fun e w' => ∃ v, e = .returned v ∧ S v w') (k : ∀ v w', S v w' → wpList P ops Q rest (a.put d v) w') : wpList P ops Q (o :: rest) a w := by
  rw [← hd] at k
  apply wpList_step
  intro K hK
  rw [if_pos hw, Oper.wp, hr]
  refine hc.mono ?_
  rintro e w' ⟨v, rfl, hS⟩
  exact hK _ _ (k v w' hS)
theorem gw_slice_hi {P : Program} {ops : Array Oper} {rest : List Oper} {o : Oper} {a : Act} {w : World} {Q : Exit → Act → World → Prop} (hw : Region.wanted o (yielded ops a.tmps) = true) (d : Option Tmp) (hd : o.dst = d) (ty : TypeId) (x l : Operand) (ho : o.op = .slice ty x (some l) none none) (vx vl v : Value) (hx : a.eval x = vx) (hl : a.eval l = vl)
    (hs : (Instr.sliceAt ty vx (some vl) none none).run P w = .ok v w) (k : wpList P ops Q rest (a.put d v) w) : wpList P ops Q (o :: rest) a w := by
  refine gw_val hw d hd v ?_ k
  unfold execOp
  simp only [ho, hx, hl, Option.map_some, Option.map_none, Sem.run_bind, hs]
  rfl
section
variable {P : Program} {Q : Exit → Act → World → Prop} {ops : Array Oper}

/-- Every operation waits for earlier ones alone. -/
def backB (ops : Array Oper) : Bool := (List.range ops.size).all fun i => ((ops[i]?).map fun o => o.after.all fun e => !Region.binds .any e || decide (e.on < i)).getD true
theorem ready_none {listed : Array Bool} (hb : backB ops = true) (hs : listed.size = ops.size) (h : Region.ready .any ops listed = []) : listed = Array.replicate ops.size true := by
  have key : ∀ i, i < ops.size → listed.getD i false = true := by
    intro i
    induction i using Nat.strongRecOn with
    | ind i ih =>
      intro hi
      by_cases hl : listed.getD i false = true
      · exact hl
      · exfalso
        have hlt : i < listed.size := by omega
        have hl2 : listed.getD i true = false := by
          simp only [Array.getD, hlt, dif_pos] at hl ⊢
          simpa using hl
        have hm : i ∈ Region.ready .any ops listed := by
          rw [mem_ready]
          refine ⟨hl2, ops[i], by simp [hi], fun e he hbe => ?_⟩
          have hbi := List.all_eq_true.1 hb i (List.mem_range.2 hi)
          rw [Array.getElem?_eq_getElem hi] at hbi
          have hlt2 : e.on < i := by
            have := (Array.all_eq_true_iff_forall_mem.1 hbi) e he
            rw [hbe] at this
            simpa using this
          exact ih e.on hlt2 (by omega)
        rw [h] at hm
        cases hm
  apply Array.ext
  · rw [hs]; simp
  · intro i h1 h2
    have := key i (by omega)
    simp only [Array.getD, h1, dif_pos] at this
    simpa using this
/-- THE REGION BY AN INVARIANT. -/
theorem wp_region_inv {id : Nat} {a : Act} {w : World} (J : Array Bool → Act → World → Prop) (hm : P.follows .mixedOrders = true) (hb : backB ops = true)
    (h0 : J (Array.replicate ops.size false) a { w with drawn := w.drawn + 1 })
    (hstep : ∀ i listed a w, i < ops.size → i ∈ Region.ready .any ops listed → J listed a w → wpOp P ops Q i (J (listed.setIfInBounds i true)) a w)
    (hend : ∀ a w, J (Array.replicate ops.size true) a w → Q .normal a w) : (Code.region id ops true).wp P Q a w := by
  refine wp_region_any hm ?_
  have key : ∀ (fuel : Nat) (listed : Array Bool) (a : Act) (w : World), listed.size = ops.size → listed.count false ≤ fuel → J listed a w → wpAny P .any ops Q fuel listed a w := by
    intro fuel
    induction fuel with
    | zero =>
      intro listed a w hs hc hJ
      have hall : listed = Array.replicate ops.size true := by
        apply Array.ext
        · rw [hs]; simp
        · intro i h1 h2
          have h3 : false ∉ listed := Array.count_eq_zero.1 (by omega)
          have h4 : listed[i] ≠ false := fun h => h3 (h ▸ Array.getElem_mem h1)
          simpa using h4
      have hr : Region.ready .any ops listed = [] := by
        rw [List.eq_nil_iff_forall_not_mem]
        intro j hj
        obtain ⟨h1, o, ho, -⟩ := mem_ready.1 hj
        have hjs : j < ops.size := (Array.getElem?_eq_some_iff.1 ho).1
        rw [hall] at h1
        simp [hjs] at h1
      exact ⟨hr, hend _ _ (hall ▸ hJ)⟩
    | succ fuel ih =>
      intro listed a w hs hc hJ
      refine ⟨fun h => hend _ _ ?_, fun i hi => ?_⟩
      · rw [← ready_none hb hs h]; exact hJ
      · obtain ⟨h1, o, ho, -⟩ := mem_ready.1 hi
        have his : i < ops.size := (Array.getElem?_eq_some_iff.1 ho).1
        refine wpOp_mono (fun a' w' hJ' => ih _ a' w' (by rw [Array.size_setIfInBounds]; exact hs) ?_ hJ') (hstep i listed a w his hi hJ)
        have hil : i < listed.size := by omega
        have hf : listed[i] = false := by
          simp only [Array.getD, hil, dif_pos] at h1
          exact h1
        rw [Array.setIfInBounds_def, dif_pos hil, Array.count_set, hf]
        have : 0 < listed.count false := Array.count_pos_iff.2 (hf ▸ Array.getElem_mem hil)
        simp
        omega
  refine key _ _ _ _ (by simp) ?_ h0
  rw [Array.count_replicate]
  simp
/-- What an operation that is ready waits for is done. -/
theorem ready_dep {i : Nat} {listed : Array Bool} (h : i ∈ Region.ready .any ops listed) (k : Nat) (hk : ((ops[i]?).map fun o => o.after.any fun e => Region.binds .any e && e.on == k).getD false = true) : listed.getD k false = true := by
  obtain ⟨-, o, ho, hall⟩ := mem_ready.1 h
  rw [ho] at hk
  simp only [Option.map_some, Option.getD_some] at hk
  obtain ⟨j, hj, hk⟩ := Array.any_eq_true.1 hk
  simp only [Bool.and_eq_true, beq_iff_eq] at hk
  rw [← hk.2]
  exact hall _ (Array.getElem_mem hj) hk.1
theorem ready_self {i : Nat} {listed : Array Bool} (h : i ∈ Region.ready .any ops listed) : listed.getD i true = false := (mem_ready.1 h).1

variable {i : Nat} {o : Oper} {a : Act} {w : World} {K : Act → World → Prop}
theorem st_of (hi : ops[i]? = some o) (hw : Region.wanted o (yielded ops a.tmps) = true) (h : Oper.wp P o a w K Q) : wpOp P ops Q i K a w := by
  unfold wpOp
  rw [hi]
  simp only
  rw [if_pos hw]
  exact .inl h
theorem st_not (hi : ops[i]? = some o) (hw : Region.wanted o (yielded ops a.tmps) = false) (h : K (a.put o.dst undef) w) : wpOp P ops Q i K a w := by
  unfold wpOp
  rw [hi]
  simp only
  rw [if_neg (by rw [hw]; decide)]
  exact h
theorem st_val (hi : ops[i]? = some o) (hw : Region.wanted o (yielded ops a.tmps) = true) (d : Option Tmp) (hd : o.dst = d) (v : Value) (w2 : World) (hr : (execOp a.eval o).run P w = .ok (.value v) w2) (h : K (a.put d v) w2) : wpOp P ops Q i K a w := by
  rw [← hd] at h
  refine st_of hi hw ?_
  rw [Oper.wp, hr, Oper.upon_value]
  exact h
theorem st_call (hi : ops[i]? = some o) (hw : Region.wanted o (yielded ops a.tmps) = true) (d : Option Tmp) (hd : o.dst = d) (f : FuncId) (args : Array Value) (hr : (execOp a.eval o).run P w = .ok (.enter f args) w)
    (hc : Calls P f args w fun e w' => ∃ v, e = .returned v ∧ K (a.put d v) w') : wpOp P ops Q i K a w := by
  rw [← hd] at hc
  refine st_of hi hw ?_
  rw [Oper.wp, hr]
  refine hc.mono ?_
  rintro e w' ⟨v, rfl, h⟩
  exact h
theorem st_load (hi : ops[i]? = some o) (hw : Region.wanted o (yielded ops a.tmps) = true) (d : Option Tmp) (hd : o.dst = d) (ty : TypeId) (x : Operand) (ho : o.op = .load ty x) (ad : Addr) (v : Value)
    (hx : a.eval x = .pointer (some ad)) (hl : (Instr.loadAt ty (.pointer (some ad))).run P w = .ok v w) (h : K (a.put d v) w) : wpOp P ops Q i K a w := by
  refine st_val hi hw d hd v w ?_ h
  unfold execOp
  simp only [ho, hx, Sem.run_bind, hl]
  rfl
theorem st_slice_to (hi : ops[i]? = some o) (hw : Region.wanted o (yielded ops a.tmps) = true) (d : Option Tmp) (hd : o.dst = d) (ty : TypeId) (x y : Operand) (ho : o.op = .slice ty x none (some y) none) (vx vh v : Value) (hx : a.eval x = vx) (hh : a.eval y = vh)
    (hs : (Instr.sliceAt ty vx none (some vh) none).run P w = .ok v w) (h : K (a.put d v) w) : wpOp P ops Q i K a w := by
  refine st_val hi hw d hd v w ?_ h
  unfold execOp
  simp only [ho, hx, hh, Option.map_some, Option.map_none, Sem.run_bind, hs]
  rfl
theorem st_slice_from (hi : ops[i]? = some o) (hw : Region.wanted o (yielded ops a.tmps) = true) (d : Option Tmp) (hd : o.dst = d) (ty : TypeId) (x y : Operand) (ho : o.op = .slice ty x (some y) none none) (vx vh v : Value) (hx : a.eval x = vx) (hh : a.eval y = vh)
    (hs : (Instr.sliceAt ty vx (some vh) none none).run P w = .ok v w) (h : K (a.put d v) w) : wpOp P ops Q i K a w := by
  refine st_val hi hw d hd v w ?_ h
  unfold execOp
  simp only [ho, hx, hh, Option.map_some, Option.map_none, Sem.run_bind, hs]
  rfl
theorem st_build (hi : ops[i]? = some o) (hw : Region.wanted o (yielded ops a.tmps) = true) (d : Option Tmp) (hd : o.dst = d) (t : TypeId) (len : Nat) (parts : Array (Nat × Operand)) (ho : o.op = .buildSlice t len parts)
    (vs : Array (Nat × Value)) (hp : (parts.map fun (i, x) => (i, a.eval x)) = vs) (v : Value) (w2 : World) (hr : (Instr.buildSlice t len vs).run P w = .ok v w2) (h : K (a.put d v) w2) : wpOp P ops Q i K a w := by
  refine st_val hi hw d hd v w2 ?_ h
  unfold execOp
  simp only [ho, Sem.run_bind, hp, hr, Result.andThen_ok]
  rfl
theorem st_append (hi : ops[i]? = some o) (hw : Region.wanted o (yielded ops a.tmps) = true) (d : Option Tmp) (hd : o.dst = d) (ty : TypeId) (hty : o.type = ty) (s x : Operand) (t : TypeId)
    (ho : o.op = .call { callee := .builtin .append, args := #[s, x], argTypes := #[t, t] }) (v u v' : Value) (w' : World) (hs : a.eval s = v) (hx : a.eval x = u)
    (hr : (Builtin.append_ #[t, t] ty #[v, u]).run P w = .ok v' w') (h : K (a.put d v') w') : wpOp P ops Q i K a w := by
  subst hd
  subst hty
  refine st_of hi hw ?_
  unfold Oper.wp execOp
  simp only [ho, resolve, invoke, builtin, Sem.run_bind, Sem.run_pure, Result.andThen_ok, List.map_toArray, List.map_cons, List.map_nil, hs, hx, hr]
  exact h
end
/-! Runs of operations that the kernel reckons by itself, and short forms. -/
theorem pu : (∀ (a : Act) (t : Tmp) (v : Value), a.put (some t) v = { a with tmps := a.tmps.setIfInBounds t v }) ∧ (∀ (l : List Value) (i : Nat) (x : Value), l.toArray.setIfInBounds i x = (l.set i x).toArray) ∧ (∀ (x : Value) (l : List Value) (n : Nat) (v : Value), (x :: l).set (n + 1) v = x :: l.set n v) ∧ (∀ (x : Value) (l : List Value) (v : Value), (x :: l).set 0 v = v :: l) :=
  ⟨fun _ _ _ => rfl, fun _ _ _ => List.setIfInBounds_toArray .., fun _ _ _ _ => rfl, fun _ _ _ => rfl⟩
section
variable {P : Program} {ops : Array Oper} {rest : List Oper} {o o1 o2 o3 o4 o5 o6 o7 o8 : Oper} {a : Act} {w : World} {Q : Exit → Act → World → Prop}
def runG (P : Program) (ops : Array Oper) : List Oper → Act → World → Option (Act × World)
  | [], a, w => some (a, w)
  | o :: l, a, w => bif Region.wanted o (yielded ops a.tmps) then
      match (execOp a.eval o).run P w with
      | .ok (.value v) w' => runG P ops l (a.put o.dst v) w'
      | _ => none
    else runG P ops l (a.put o.dst undef) w
theorem runG_ok : ∀ (l : List Oper) (a : Act) (w : World) (a' : Act) (w' : World), runG P ops l a w = some (a', w') → wpList P ops Q rest a' w' → wpList P ops Q (l ++ rest) a w
  | [], a, w, a', w', h, k => by
    simp only [runG, Option.some.injEq, Prod.mk.injEq] at h
    obtain ⟨rfl, rfl⟩ := h
    exact k
  | o :: l, a, w, a', w', h, k => by
    unfold runG at h
    cases hw : Region.wanted o (yielded ops a.tmps) with
    | true =>
      rw [hw, cond_true] at h
      split at h
      · rename_i v w2 hr
        exact gw_new hw o.dst rfl v w2 hr (runG_ok l _ _ a' w' h k)
      · exact absurd h (by simp)
    | false =>
      rw [hw, cond_false] at h
      exact gw_not hw o.dst rfl (runG_ok l _ _ a' w' h k)
theorem gz1 {d1 : Option Tmp} (v1 : Value) (k : wpList P ops Q rest (a.put d1 v1) w) (e1 : o1.dst = d1 := by rfl) (h : runG P ops [o1] a w = some ((a.put d1 v1), w) := by kernel_rfl) : wpList P ops Q (o1 :: rest) a w := by
  subst e1
  exact runG_ok [o1] a w _ _ h k
theorem gz2 {d1 d2 : Option Tmp} (v1 v2 : Value) (k : wpList P ops Q rest ((a.put d1 v1).put d2 v2) w) (e1 : o1.dst = d1 := by rfl) (e2 : o2.dst = d2 := by rfl) (h : runG P ops [o1, o2] a w = some (((a.put d1 v1).put d2 v2), w) := by kernel_rfl) : wpList P ops Q (o1 :: o2 :: rest) a w := by
  subst e1 e2
  exact runG_ok [o1, o2] a w _ _ h k
theorem gz3 {d1 d2 d3 : Option Tmp} (v1 v2 v3 : Value) (k : wpList P ops Q rest (((a.put d1 v1).put d2 v2).put d3 v3) w) (e1 : o1.dst = d1 := by rfl) (e2 : o2.dst = d2 := by rfl) (e3 : o3.dst = d3 := by rfl) (h : runG P ops [o1, o2, o3] a w = some ((((a.put d1 v1).put d2 v2).put d3 v3), w) := by kernel_rfl) : wpList P ops Q (o1 :: o2 :: o3 :: rest) a w := by
  subst e1 e2 e3
  exact runG_ok [o1, o2, o3] a w _ _ h k
theorem gz4 {d1 d2 d3 d4 : Option Tmp} (v1 v2 v3 v4 : Value) (k : wpList P ops Q rest ((((a.put d1 v1).put d2 v2).put d3 v3).put d4 v4) w) (e1 : o1.dst = d1 := by rfl) (e2 : o2.dst = d2 := by rfl) (e3 : o3.dst = d3 := by rfl) (e4 : o4.dst = d4 := by rfl) (h : runG P ops [o1, o2, o3, o4] a w = some (((((a.put d1 v1).put d2 v2).put d3 v3).put d4 v4), w) := by kernel_rfl) : wpList P ops Q (o1 :: o2 :: o3 :: o4 :: rest) a w := by
  subst e1 e2 e3 e4
  exact runG_ok [o1, o2, o3, o4] a w _ _ h k
theorem gz5 {d1 d2 d3 d4 d5 : Option Tmp} (v1 v2 v3 v4 v5 : Value) (k : wpList P ops Q rest (((((a.put d1 v1).put d2 v2).put d3 v3).put d4 v4).put d5 v5) w) (e1 : o1.dst = d1 := by rfl) (e2 : o2.dst = d2 := by rfl) (e3 : o3.dst = d3 := by rfl) (e4 : o4.dst = d4 := by rfl) (e5 : o5.dst = d5 := by rfl) (h : runG P ops [o1, o2, o3, o4, o5] a w = some ((((((a.put d1 v1).put d2 v2).put d3 v3).put d4 v4).put d5 v5), w) := by kernel_rfl) : wpList P ops Q (o1 :: o2 :: o3 :: o4 :: o5 :: rest) a w := by
  subst e1 e2 e3 e4 e5
  exact runG_ok [o1, o2, o3, o4, o5] a w _ _ h k
theorem gz6 {d1 d2 d3 d4 d5 d6 : Option Tmp} (v1 v2 v3 v4 v5 v6 : Value) (k : wpList P ops Q rest ((((((a.put d1 v1).put d2 v2).put d3 v3).put d4 v4).put d5 v5).put d6 v6) w) (e1 : o1.dst = d1 := by rfl) (e2 : o2.dst = d2 := by rfl) (e3 : o3.dst = d3 := by rfl) (e4 : o4.dst = d4 := by rfl) (e5 : o5.dst = d5 := by rfl) (e6 : o6.dst = d6 := by rfl) (h : runG P ops [o1, o2, o3, o4, o5, o6] a w = some (((((((a.put d1 v1).put d2 v2).put d3 v3).put d4 v4).put d5 v5).put d6 v6), w) := by kernel_rfl) : wpList P ops Q (o1 :: o2 :: o3 :: o4 :: o5 :: o6 :: rest) a w := by
  subst e1 e2 e3 e4 e5 e6
  exact runG_ok [o1, o2, o3, o4, o5, o6] a w _ _ h k
/-- One operation with its value, an operation that makes memory, a load, a store, a call. -/
theorem gzv {d : Option Tmp} (v : Value) (hr : (execOp a.eval o).run P w = .ok (.value v) w) (k : wpList P ops Q rest (a.put d v) w) (hd : o.dst = d := by rfl) (hw : Region.wanted o (yielded ops a.tmps) = true := by kernel_rfl) : wpList P ops Q (o :: rest) a w := gw_val hw d hd v hr k
theorem gzl {d : Option Tmp} {ty : TypeId} {x : Operand} (ho : o.op = .load ty x) (ad : Addr) (v : Value) (hl : (Instr.loadAt ty (.pointer (some ad))).run P w = .ok v w) (k : wpList P ops Q rest (a.put d v) w) (hd : o.dst = d := by rfl) (hw : Region.wanted o (yielded ops a.tmps) = true := by kernel_rfl) (hx : a.eval x = .pointer (some ad) := by kernel_rfl) : wpList P ops Q (o :: rest) a w := gw_load hw d hd ty x ho ad v hx hl k
theorem gzc {d : Option Tmp} (v : Value) (S : World → Prop) {f : FuncId} {args : Array Value} (hc : Calls P f args w fun e w' => e = .returned v ∧ S w') (k : ∀ w', S w' → wpList P ops Q rest (a.put d v) w') (hd : o.dst = d := by rfl) (hw : Region.wanted o (yielded ops a.tmps) = true := by kernel_rfl) (hr : (execOp a.eval o).run P w = .ok (.enter f args) w := by kernel_rfl) : wpList P ops Q (o :: rest) a w := gw_call hw d hd f args v S hr hc k
theorem gze {d : Option Tmp} (S : Value → World → Prop) {f : FuncId} {args : Array Value} (hc : Calls P f args w fun e w' => ∃ v, e = .returned v ∧ S v w') (k : ∀ v w', S v w' → wpList P ops Q rest (a.put d v) w') (hd : o.dst = d := by rfl) (hw : Region.wanted o (yielded ops a.tmps) = true := by kernel_rfl) (hr : (execOp a.eval o).run P w = .ok (.enter f args) w := by kernel_rfl) : wpList P ops Q (o :: rest) a w := gw_callE hw d hd f args S hr hc k
/-- An operation with two operands: the law wants them, the kernel finds them. -/
theorem gzw {d : Option Tmp} {x y : Operand} {X Y : Value} (v : Value) (hr : a.eval x = X → a.eval y = Y → ∀ w, (execOp a.eval o).run P w = .ok (.value v) w) (k : wpList P ops Q rest (a.put d v) w) (hd : o.dst = d := by rfl) (hw : Region.wanted o (yielded ops a.tmps) = true := by kernel_rfl) (hx : a.eval x = X := by kernel_rfl) (hy : a.eval y = Y := by kernel_rfl) : wpList P ops Q (o :: rest) a w := gw_val hw d hd v (hr hx hy w) k
theorem gzb {d : Option Tmp} {x y : Operand} {X Y v : Value} (hr : a.eval x = X → a.eval y = Y → ∀ w, (execOp a.eval o).run P w = .ok (.value v) w) (k : wpList P ops Q rest (a.put d v) w) (hd : o.dst = d := by rfl) (hw : Region.wanted o (yielded ops a.tmps) = true := by kernel_rfl) (hx : a.eval x = X := by kernel_rfl) (hy : a.eval y = Y := by kernel_rfl) : wpList P ops Q (o :: rest) a w := gw_val hw d hd v (hr hx hy w) k
theorem dT {p : Prop} [Decidable p] (h : p := by omega) : decide p = true := decide_eq_true h
theorem dF {p : Prop} [Decidable p] (h : ¬p := by omega) : decide p = false := decide_eq_false h
theorem wl {id : Nat} {l : List Oper} (h : wpList P l.toArray Q l a w) : (Code.region id l.toArray false).wp P Q a w := wp_region_lit h
theorem wn (h : Q .normal a w) : wpList P ops Q [] a w := wpList_nil h
end
section
variable {P : Program} {C : World → Prop} {ops : Array Oper} {Q : Act → Prop} {a : Act} {o : Oper} {rest : List Oper}
/-- Short forms in a region that draws its order. -/
theorem gy {d : Option Tmp} (v : Value) (k : wpQuiet P ops C Q rest (a.put d v)) (hd : o.dst = d := by rfl) (hw : Region.wanted o (yielded ops a.tmps) = true := by kernel_rfl) (hr : ∀ w, (execOp a.eval o).run P w = .ok (.value v) w := by intro w; kernel_rfl) : wpQuiet P ops C Q (o :: rest) a := gq_val hw d hd v (fun w _ => hr w) k
theorem gyn {d : Option Tmp} (k : wpQuiet P ops C Q rest (a.put d undef)) (hd : o.dst = d := by rfl) (hw : Region.wanted o (yielded ops a.tmps) = false := by kernel_rfl) : wpQuiet P ops C Q (o :: rest) a := gq_not hw d hd k
theorem gyv {d : Option Tmp} (v : Value) (hr : ∀ w, C w → (execOp a.eval o).run P w = .ok (.value v) w) (k : wpQuiet P ops C Q rest (a.put d v)) (hd : o.dst = d := by rfl) (hw : Region.wanted o (yielded ops a.tmps) = true := by kernel_rfl) : wpQuiet P ops C Q (o :: rest) a := gq_val hw d hd v hr k
theorem gyl {d : Option Tmp} {ty : TypeId} {x : Operand} (ho : o.op = .load ty x) (ad : Addr) (v : Value) (hl : ∀ w, C w → (Instr.loadAt ty (.pointer (some ad))).run P w = .ok v w) (k : wpQuiet P ops C Q rest (a.put d v)) (hd : o.dst = d := by rfl) (hw : Region.wanted o (yielded ops a.tmps) = true := by kernel_rfl) (hx : a.eval x = .pointer (some ad) := by kernel_rfl) : wpQuiet P ops C Q (o :: rest) a := gq_load hw d hd ty x ho ad v hx hl k
end
end Go.Proofs.Ytglglhcnofbagaa
namespace Go.Proofs.Ytglglhcnofbagaa
open Go.RowKit

def nums (s : ByteArray) : List Int := s.data.toList.map fun x => (x.toNat : Int)
theorem nums_len (s : ByteArray) : (nums s).length = s.size := by
 unfold nums
 rw [List.length_map, Array.length_toList]
 rfl
theorem nums_at (s : ByteArray) (i : Nat) (h : i < s.size) : (nums s).getD i 0 = ((s[i]'h).toNat : Int) := by
 have h2 : i < s.data.toList.length := by rw [Array.length_toList]; exact h
 unfold nums
 rw [getD_lt _ i 0 (by simpa using h2), List.getElem_map]
 rfl
theorem nums_byte (s : ByteArray) : ∀ x, x ∈ nums s → W8 x := by
 intro x hx
 obtain ⟨b, -, rfl⟩ := List.mem_map.1 hx
 have := b.toNat_lt
 exact ⟨by omega, by omega⟩
theorem nums_str (L : List Int) (h : ∀ x, x ∈ L → W8 x) : nums (strOfNums L) = L := by
 unfold nums
 rw [strOfNums_data, List.map_map]
 conv => rhs; rw [← List.map_id L]
 apply List.map_congr_left
 intro x hx
 obtain ⟨h0, h1⟩ := h x hx
 simp
 omega
theorem str_nums (s : ByteArray) : strOfNums (nums s) = s := by
 apply ByteArray.ext
 apply Array.toList_inj.1
 rw [strOfNums_data, nums, List.map_map]
 conv => rhs; rw [← List.map_id s.data.toList]
 apply List.map_congr_left
 intro x _
 simp
theorem str_index (s : ByteArray) (i : Nat) (h : i < s.size) (w : World) : (Instr.index 9 (.string s) (.int .i64 (i : Int))).run Try.prog w = .ok (.int .u8 ((nums s).getD i 0)) w := by
 have hc : 0 ≤ (i : Int) ∧ (i : Int) < s.size := by omega
 rw [run_index_string _ _ _ _ _ Try.underlying9, dif_pos hc, nums_at s i h]
 rfl
end Go.Proofs.Ytglglhcnofbagaa
namespace Go.Proofs.Ytglglhcnofbagaa
set_option linter.unusedSimpArgs false
set_option linter.unusedVariables false

/-- The reference's Rune, out of the bytes and of whether they follow. -/
def runN (c0 c1 : Int) (f1 f2 f3 : Bool) : Nat :=
 if c0 < 128 then 1
 else if (194 ≤ c0 ∧ c0 < 224) ∧ f1 = true then 2
 else if ((224 ≤ c0 ∧ c0 < 240) ∧ f1 = true) ∧ f2 = true then (if (c0 = 224 ∧ c1 < 160) ∨ (c0 = 237 ∧ 160 ≤ c1) then 0 else 3)
 else if (((240 ≤ c0 ∧ c0 < 245) ∧ f1 = true) ∧ f2 = true) ∧ f3 = true then (if (c0 = 240 ∧ c1 < 144) ∨ (c0 = 244 ∧ 144 ≤ c1) then 0 else 4)
 else 0
def valN (k : Nat) (c0 c1 c2 c3 : Int) : Int :=
 if k = 1 then c0
 else if k = 2 then (c0 - 192) * 64 + (c1 - 128)
 else if k = 3 then (c0 - 224) * 4096 + (c1 - 128) * 64 + (c2 - 128)
 else if k = 4 then (c0 - 240) * 262144 + (c1 - 128) * 4096 + (c2 - 128) * 64 + (c3 - 128)
 else 65533
def cnt (s : ByteArray) (i k : Nat) : Bool := i + k < s.size && (s.get! (i + k)).toNat / 64 == 2
theorem valid_nat (n : Nat) : Utf8.valid (n : Int) = decide (n < 55296 ∨ (57344 ≤ n ∧ n ≤ 1114111)) := by
 unfold Utf8.valid
 rw [Bool.eq_iff_iff]
 simp only [Bool.or_eq_true, Bool.and_eq_true, decide_eq_true_eq]
 omega
set_option maxRecDepth 100000 in
theorem dec_pure (s : ByteArray) (i b0 b1 b2 b3 : Nat) (f1 f2 f3 : Bool) (e0 : (s.get! (i + 0)).toNat = b0) (e1 : (s.get! (i + 1)).toNat = b1) (e2 : (s.get! (i + 2)).toNat = b2) (e3 : (s.get! (i + 3)).toNat = b3) (c1 : (decide (i + 1 < s.size) && b1 / 64 == 2) = f1) (c2 : (decide (i + 2 < s.size) && b2 / 64 == 2) = f2) (c3 : (decide (i + 3 < s.size) && b3 / 64 == 2) = f3) (q0 : b0 < 256) (h1 : f1 = true → 128 ≤ b1 ∧ b1 < 192) (h2 : f2 = true → 128 ≤ b2 ∧ b2 < 192) (h3 : f3 = true → 128 ≤ b3 ∧ b3 < 192) :
  (Utf8.decode s i).2 = (if runN b0 b1 f1 f2 f3 = 0 then 1 else runN b0 b1 f1 f2 f3) ∧ ((Utf8.decode s i).1 : Int) = (if runN b0 b1 f1 f2 f3 = 0 then 65533 else valN (runN b0 b1 f1 f2 f3) b0 b1 b2 b3) := by
 have fin : ∀ (k c : Nat), runN b0 b1 f1 f2 f3 = k → Utf8.decode s i = (c, if k = 0 then 1 else k) → (c : Int) = (if k = 0 then 65533 else valN k b0 b1 b2 b3) →
   (Utf8.decode s i).2 = (if runN b0 b1 f1 f2 f3 = 0 then 1 else runN b0 b1 f1 f2 f3) ∧ ((Utf8.decode s i).1 : Int) = (if runN b0 b1 f1 f2 f3 = 0 then 65533 else valN (runN b0 b1 f1 f2 f3) b0 b1 b2 b3) := fun k c hr hd hc => by
  rw [hr, hd]
  exact ⟨rfl, hc⟩
 by_cases k1 : b0 < 128
 ·refine fin 1 b0 ?_ ?_ ?_
  ·unfold runN; rw [if_pos (by omega)]
  ·unfold Utf8.decode; simp only [e0, e1, e2, e3, c1, c2, c3]; rw [if_pos k1]; rfl
  ·simp [valN]
 have k1' : ¬ (b0 : Int) < 128 := by omega
 by_cases k2 : b0 / 32 = 6
 ·have z3 : ¬ (((224 ≤ (b0 : Int) ∧ (b0 : Int) < 240) ∧ f1 = true) ∧ f2 = true) := by rintro ⟨⟨⟨_, _⟩, _⟩, _⟩; omega
  have z4 : ¬ ((((240 ≤ (b0 : Int) ∧ (b0 : Int) < 245) ∧ f1 = true) ∧ f2 = true) ∧ f3 = true) := by rintro ⟨⟨⟨⟨_, _⟩, _⟩, _⟩, _⟩; omega
  by_cases y1 : f1 = true
  ·have hb1 := h1 y1
   by_cases k3 : 194 ≤ b0
   ·refine fin 2 (b0 % 32 * 64 + b1 % 64) ?_ ?_ ?_
    ·unfold runN; rw [if_neg k1', if_pos ⟨⟨by omega, by omega⟩, y1⟩]
    ·unfold Utf8.decode; simp only [e0, e1, e2, e3, c1, c2, c3]; rw [if_neg k1, if_pos (by simp [k2, y1]), if_pos (by omega)]; rfl
    ·simp [valN]; omega
   ·refine fin 0 65533 ?_ ?_ rfl
    ·unfold runN; rw [if_neg k1', if_neg (by rintro ⟨⟨_, _⟩, _⟩; omega), if_neg z3, if_neg z4]
    ·unfold Utf8.decode; simp only [e0, e1, e2, e3, c1, c2, c3]; rw [if_neg k1, if_pos (by simp [k2, y1]), if_neg (by omega)]; rfl
  ·refine fin 0 65533 ?_ ?_ rfl
   ·unfold runN; rw [if_neg k1', if_neg (fun h => y1 h.2), if_neg z3, if_neg z4]
   ·unfold Utf8.decode; simp only [e0, e1, e2, e3, c1, c2, c3]; rw [if_neg k1, if_neg (by simp [y1]), if_neg (by simp [y1]), if_neg (by simp [y1])]; rfl
 have z2 : ¬ ((194 ≤ (b0 : Int) ∧ (b0 : Int) < 224) ∧ f1 = true) := by rintro ⟨⟨_, _⟩, _⟩; omega
 have d2 : ¬ ((b0 / 32 == 6 && f1) = true) := by simp [k2]
 by_cases k3 : b0 / 16 = 14
 ·have z4 : ¬ ((((240 ≤ (b0 : Int) ∧ (b0 : Int) < 245) ∧ f1 = true) ∧ f2 = true) ∧ f3 = true) := by rintro ⟨⟨⟨⟨_, _⟩, _⟩, _⟩, _⟩; omega
  have d4 : ¬ ((b0 / 8 == 30 && f1 && f2 && f3) = true) := by
   have : b0 / 8 ≠ 30 := by omega
   simp [this]
  by_cases y1 : f1 = true ∧ f2 = true
  ·have hb1 := h1 y1.1
   have hb2 := h2 y1.2
   have d3 : (b0 / 16 == 14 && f1 && f2) = true := by simp [k3, y1.1, y1.2]
   have z3 : ((224 ≤ (b0 : Int) ∧ (b0 : Int) < 240) ∧ f1 = true) ∧ f2 = true := ⟨⟨⟨by omega, by omega⟩, y1.1⟩, y1.2⟩
   by_cases k4 : (b0 = 224 ∧ b1 < 160) ∨ (b0 = 237 ∧ 160 ≤ b1)
   ·refine fin 0 65533 ?_ ?_ rfl
    ·unfold runN; rw [if_neg k1', if_neg z2, if_pos z3, if_pos (by omega)]
    ·unfold Utf8.decode; simp only [e0, e1, e2, e3, c1, c2, c3]; rw [if_neg k1, if_neg d2, if_pos d3, valid_nat, if_neg (by simp only [Bool.and_eq_true, decide_eq_true_eq]; omega)]; rfl
   ·refine fin 3 (b0 % 16 * 4096 + b1 % 64 * 64 + b2 % 64) ?_ ?_ ?_
    ·unfold runN; rw [if_neg k1', if_neg z2, if_pos z3, if_neg (by omega)]
    ·unfold Utf8.decode; simp only [e0, e1, e2, e3, c1, c2, c3]; rw [if_neg k1, if_neg d2, if_pos d3, valid_nat, if_pos (by simp only [Bool.and_eq_true, decide_eq_true_eq]; omega)]; rfl
    ·simp [valN]; omega
  ·have z3 : ¬ (((224 ≤ (b0 : Int) ∧ (b0 : Int) < 240) ∧ f1 = true) ∧ f2 = true) := fun h => y1 ⟨h.1.2, h.2⟩
   have d3 : ¬ ((b0 / 16 == 14 && f1 && f2) = true) := by
    simp only [Bool.and_eq_true]
    exact fun h => y1 ⟨h.1.2, h.2⟩
   refine fin 0 65533 ?_ ?_ rfl
   ·unfold runN; rw [if_neg k1', if_neg z2, if_neg z3, if_neg z4]
   ·unfold Utf8.decode; simp only [e0, e1, e2, e3, c1, c2, c3]; rw [if_neg k1, if_neg d2, if_neg d3, if_neg d4]; rfl
 have z3 : ¬ (((224 ≤ (b0 : Int) ∧ (b0 : Int) < 240) ∧ f1 = true) ∧ f2 = true) := by rintro ⟨⟨⟨_, _⟩, _⟩, _⟩; omega
 have d3 : ¬ ((b0 / 16 == 14 && f1 && f2) = true) := by simp [k3]
 by_cases k5 : b0 / 8 = 30
 ·by_cases y1 : (f1 = true ∧ f2 = true) ∧ f3 = true
  ·have hb1 := h1 y1.1.1
   have hb2 := h2 y1.1.2
   have hb3 := h3 y1.2
   have d4 : (b0 / 8 == 30 && f1 && f2 && f3) = true := by simp [k5, y1.1.1, y1.1.2, y1.2]
   by_cases k6 : b0 < 245
   ·have z4 : (((240 ≤ (b0 : Int) ∧ (b0 : Int) < 245) ∧ f1 = true) ∧ f2 = true) ∧ f3 = true := ⟨⟨⟨⟨by omega, by omega⟩, y1.1.1⟩, y1.1.2⟩, y1.2⟩
    by_cases k4 : (b0 = 240 ∧ b1 < 144) ∨ (b0 = 244 ∧ 144 ≤ b1)
    ·refine fin 0 65533 ?_ ?_ rfl
     ·unfold runN; rw [if_neg k1', if_neg z2, if_neg z3, if_pos z4, if_pos (by omega)]
     ·unfold Utf8.decode; simp only [e0, e1, e2, e3, c1, c2, c3]; rw [if_neg k1, if_neg d2, if_neg d3, if_pos d4, valid_nat, if_neg (by simp only [Bool.and_eq_true, decide_eq_true_eq]; omega)]; rfl
    ·refine fin 4 (b0 % 8 * 262144 + b1 % 64 * 4096 + b2 % 64 * 64 + b3 % 64) ?_ ?_ ?_
     ·unfold runN; rw [if_neg k1', if_neg z2, if_neg z3, if_pos z4, if_neg (by omega)]
     ·unfold Utf8.decode; simp only [e0, e1, e2, e3, c1, c2, c3]; rw [if_neg k1, if_neg d2, if_neg d3, if_pos d4, valid_nat, if_pos (by simp only [Bool.and_eq_true, decide_eq_true_eq]; omega)]; rfl
     ·simp [valN]; omega
   ·have z4 : ¬ ((((240 ≤ (b0 : Int) ∧ (b0 : Int) < 245) ∧ f1 = true) ∧ f2 = true) ∧ f3 = true) := by rintro ⟨⟨⟨⟨_, _⟩, _⟩, _⟩, _⟩; omega
    refine fin 0 65533 ?_ ?_ rfl
    ·unfold runN; rw [if_neg k1', if_neg z2, if_neg z3, if_neg z4]
    ·unfold Utf8.decode; simp only [e0, e1, e2, e3, c1, c2, c3]; rw [if_neg k1, if_neg d2, if_neg d3, if_pos d4, valid_nat, if_neg (by simp only [Bool.and_eq_true, decide_eq_true_eq]; omega)]; rfl
  ·have z4 : ¬ ((((240 ≤ (b0 : Int) ∧ (b0 : Int) < 245) ∧ f1 = true) ∧ f2 = true) ∧ f3 = true) := fun h => y1 ⟨⟨h.1.1.2, h.1.2⟩, h.2⟩
   have d4 : ¬ ((b0 / 8 == 30 && f1 && f2 && f3) = true) := by
    simp only [Bool.and_eq_true]
    exact fun h => y1 ⟨⟨h.1.1.2, h.1.2⟩, h.2⟩
   refine fin 0 65533 ?_ ?_ rfl
   ·unfold runN; rw [if_neg k1', if_neg z2, if_neg z3, if_neg z4]
   ·unfold Utf8.decode; simp only [e0, e1, e2, e3, c1, c2, c3]; rw [if_neg k1, if_neg d2, if_neg d3, if_neg d4]; rfl
 have z4 : ¬ ((((240 ≤ (b0 : Int) ∧ (b0 : Int) < 245) ∧ f1 = true) ∧ f2 = true) ∧ f3 = true) := by rintro ⟨⟨⟨⟨_, _⟩, _⟩, _⟩, _⟩; omega
 have d4 : ¬ ((b0 / 8 == 30 && f1 && f2 && f3) = true) := by simp [k5]
 refine fin 0 65533 ?_ ?_ rfl
 ·unfold runN; rw [if_neg k1', if_neg z2, if_neg z3, if_neg z4]
 ·unfold Utf8.decode; simp only [e0, e1, e2, e3, c1, c2, c3]; rw [if_neg k1, if_neg d2, if_neg d3, if_neg d4]; rfl
/-- A byte that follows. -/
def fol (L : List Int) (i : Nat) : Bool := decide (i < L.length) && (decide (128 ≤ L.getD i 0) && decide (L.getD i 0 < 192))
/-- The reference's Rune. -/
def runK (L : List Int) (i : Nat) : Nat := runN (L.getD i 0) (L.getD (i + 1) 0) (fol L (i + 1)) (fol L (i + 2)) (fol L (i + 3))
/-- The rune itself. -/
def runV (L : List Int) (i : Nat) : Int := valN (runK L i) (L.getD i 0) (L.getD (i + 1) 0) (L.getD (i + 2) 0) (L.getD (i + 3) 0)
theorem get_nums (s : ByteArray) (j : Nat) : (nums s).getD j 0 = ((s.get! j).toNat : Int) := by
 by_cases h : j < s.size
 ·rw [nums_at s j h]
  congr 1
  show _ = (s.data[j]!).toNat
  rw [getElem!_pos s.data j h]
  rfl
 ·have hl : (nums s).length ≤ j := by rw [nums_len]; omega
  rw [List.getD_eq_getElem?_getD, List.getElem?_eq_none hl]
  show 0 = ((s.data[j]!).toNat : Int)
  rw [getElem!_neg s.data j h]
  rfl
theorem fol_cnt (s : ByteArray) (i k : Nat) : fol (nums s) (i + k) = cnt s i k := by
 unfold fol cnt
 rw [get_nums, nums_len]
 generalize (s.get! (i + k)).toNat = b
 rw [Bool.eq_iff_iff]
 simp only [Bool.and_eq_true, decide_eq_true_eq, beq_iff_eq]
 omega
theorem fol_rng {L : List Int} {i : Nat} (h : fol L i = true) : i < L.length ∧ 128 ≤ L.getD i 0 ∧ L.getD i 0 < 192 := by
 unfold fol at h
 simp only [Bool.and_eq_true, decide_eq_true_eq] at h
 exact h
theorem run_len {L : List Int} {i : Nat} (h : i < L.length) : i + runK L i ≤ L.length := by
 unfold runK runN
 have h1 := @fol_rng L (i + 1)
 have h2 := @fol_rng L (i + 2)
 have h3 := @fol_rng L (i + 3)
 repeat' split
 ·omega
 ·rename_i h4; have := h1 h4.2; omega
 ·omega
 ·rename_i h4 _; have := h2 h4.2; omega
 ·omega
 ·rename_i h4 _; have := h3 h4.2; omega
 ·omega
theorem run_le (L : List Int) (i : Nat) : runK L i ≤ 4 := by
 unfold runK runN
 repeat' split
 all_goals omega
/-- The model's decode at a place of a string. -/
theorem dec_run (s : ByteArray) (i : Nat) : (Utf8.decode s i).2 = (if runK (nums s) i = 0 then 1 else runK (nums s) i) ∧ ((Utf8.decode s i).1 : Int) = (if runK (nums s) i = 0 then 65533 else runV (nums s) i) := by
 have h1 := @fol_rng (nums s) (i + 1)
 have h2 := @fol_rng (nums s) (i + 2)
 have h3 := @fol_rng (nums s) (i + 3)
 unfold runV runK
 rw [fol_cnt] at h1 h2 h3
 rw [fol_cnt, fol_cnt, fol_cnt]
 rw [get_nums] at h1 h2 h3
 rw [get_nums, get_nums, get_nums, get_nums]
 have q0 : (s.get! (i + 0)).toNat < 256 := (s.get! (i + 0)).toNat_lt
 exact dec_pure s i _ _ _ _ _ _ _ rfl rfl rfl rfl rfl rfl rfl q0 (fun h => by have := h1 h; omega) (fun h => by have := h2 h; omega) (fun h => by have := h3 h; omega)
end Go.Proofs.Ytglglhcnofbagaa
namespace Go.Proofs.Ytglglhcnofbagaa
open Go.RowKit

/-- Cells lie in a row. -/
def Cs (w : World) (a : Option Addr) (cs : List Value) : Prop := ∀ j v, cs[j]? = some v → ∃ b off, a = some ⟨b, off, none⟩ ∧ b < w.heap.size ∧ w.cell? ⟨b, off + j, none⟩ = some v
theorem Cs.nil (w : World) (a : Option Addr) : Cs w a [] := fun j v h => by simp at h
theorem Cs.below {w w' : World} {a : Option Addr} {cs : List Value} (h : Cs w a cs) (hb : Below w.heap.size w w') : Cs w' a cs := fun j v hj => by
  obtain ⟨b, off, e, hlt, hc⟩ := h j v hj
  exact ⟨b, off, e, Nat.lt_of_lt_of_le hlt hb.size, (hb.cell (p := ⟨b, off + j, none⟩) hlt).trans hc⟩
theorem Cs.take {w : World} {a : Option Addr} {cs : List Value} (h : Cs w a cs) (k : Nat) : Cs w a (cs.take k) := fun j v hj => by
  rw [List.getElem?_take] at hj
  split at hj
  · exact h j v hj
  · cases hj
/-- The head of a part of a slice. -/
def fromS (s : Nat) (a : Option Addr) (c k : Nat) : Option Addr := if c = k then a else a.map (·.add (k * s))
theorem Cs.from {w : World} {a : Option Addr} {cs : List Value} (h : Cs w a cs) (s c k : Nat) (hc : cs.length ≤ c * s) : Cs w (fromS s a c k) (cs.drop (k * s)) := fun j v hj => by
  rw [List.getElem?_drop] at hj
  have hlt : k * s + j < cs.length := (List.getElem?_eq_some_iff.1 hj).1
  obtain ⟨b, off, rfl, hb, hcell⟩ := h _ v hj
  refine ⟨b, off + k * s, ?_, hb, by rw [Nat.add_assoc]; exact hcell⟩
  unfold fromS
  rw [if_neg (by rintro rfl; omega)]
  simp only [Option.map_some]
  rw [Addr.add_mid]
/-- A block that is a row. -/
theorem Cs.block {w : World} {g t : Nat} {cs : List Value} {fr : Nat × Nat} (h : w.heap[g]? = some (.cells cs.toArray t fr)) : Cs w (some ⟨g, 0, none⟩) cs := fun j v hj => by
  refine ⟨g, 0, rfl, (Array.getElem?_eq_some_iff.1 h).1, ?_⟩
  rw [Nat.zero_add, cell_of_row w g j _ t fr h]
  simpa using hj
theorem own_cs {w : World} {B e s n : Nat} {v : Value} {cs : List Value} (h : w.ownsRow B e s v n cs) : ∃ a c, v = .slice a n c ∧ Cs w a cs ∧ n ≤ c := by
  have hlen := h.1
  rcases h.2 with ⟨rfl, h0⟩ | ⟨g, cap, cur, rfl, hb, hg, hcap, hm, hcs, htk⟩
  · refine ⟨none, 0, by rw [h0], ?_, by omega⟩
    have : cs = [] := List.eq_nil_of_length_eq_zero (by rw [hlen, h0]; simp)
    rw [this]
    exact Cs.nil _ _
  · refine ⟨some ⟨g, 0, none⟩, cap, rfl, fun j v hj => ⟨g, 0, rfl, (Array.getElem?_eq_some_iff.1 hg).1, ?_⟩, hcap⟩
    have := h.cells (g := g) rfl j v hj
    rw [← this, Go.WideShapes.add_plain]

section
variable {P : Program} {t e s bytes : Nat} {z : Value}
/-- 'append' of any part to a row of the call's own. -/
theorem append_cs (hu : P.underlying t = some (.slice e)) (hinfo : (P.info? e).map (fun i => (i.zero, i.size, i.bytes)) = some (some z, s, bytes)) (hzs : z.cells.size = s) (hs : 0 < s) (hby : bytes ≤ 1000)
    {w : World} {B n m : Nat} {v : Value} {xs : List Value} (hO : w.ownsRow B e s v n xs) (pa : Option Addr) (cp : Nat) (ys : List Value) (hP : Cs w pa ys) (hl : ys.length = m * s) (h1 : ∀ u ∈ ys, u.oneCell' = true) (hB : B ≤ w.heap.size) (hn : n ≤ 100000) (hm : m ≤ 100000) :
    ∃ v' w', (Builtin.append_ #[t, t] t #[v, .slice pa m cp]).run P w = .ok v' w' ∧ w'.ownsRow B e s v' (n + m) (xs ++ ys) ∧ Below B w w' ∧ w.grownBy w' v.ownBlock := by
  obtain ⟨i0, hi, hz0, hz1, hz2⟩ := info_parts hinfo
  by_cases hy : ys = []
  · subst hy
    obtain rfl : m = 0 := by
      rcases Nat.eq_zero_or_pos m with h | h
      · exact h
      · have := Nat.mul_pos h hs
        rw [← hl] at this
        simp at this
    cases pa with
    | none =>
      refine ⟨v, w, ?_, by simpa using hO, Below.refl _ _, World.grownBy.refl w _⟩
      rcases hO.2 with ⟨rfl, h0⟩ | ⟨g, cap, cur, rfl, _, _, hnc, _⟩
      · simp [Builtin.append_, run_underlying hu, sizeOf, typeInfo, hi, Builtin.lenOf, Builtin.firstCells]
      · simp [Builtin.append_, run_underlying hu, sizeOf, typeInfo, hi, Builtin.lenOf, Builtin.firstCells, hnc, storeCells]
    | some x =>
      obtain ⟨v', w', hr, h2, h3, -, -⟩ := run_append_own_at (P := P) w B t t e i0 z s bytes hu hi hz0 hz1 hz2 hzs hs v n xs hO x 0 cp [] (by simp) (fun j u h => by simp at h) (by simp) (by unfold maxLen; omega) (by have := Nat.mul_le_mul (show n + 0 ≤ 100000 by omega) hby; omega) hB
      exact ⟨v', w', hr, h2, (Below.refl _ w).grown h3 hB (fun j hj => (hO.lt j hj).1), h3⟩
  · obtain ⟨y, hy0⟩ : ∃ y, ys[0]? = some y := by
      cases ys with
      | nil => exact absurd rfl hy
      | cons y r => exact ⟨y, rfl⟩
    obtain ⟨b, off, rfl, -⟩ := hP 0 y hy0
    have hcells : ∀ j u, ys[j]? = some u → w.cell? ((⟨b, off, none⟩ : Addr).add j) = some u := fun j u hu => by
      obtain ⟨b2, off2, e2, -, hc⟩ := hP j u hu
      simp only [Option.some.injEq, Addr.mk.injEq, and_true] at e2
      obtain ⟨rfl, rfl⟩ := e2
      rw [Addr.add_mid]
      exact hc
    obtain ⟨v', w', hr, h2, h3, -, -⟩ := run_append_own_at (P := P) w B t t e i0 z s bytes hu hi hz0 hz1 hz2 hzs hs v n xs hO ⟨b, off, none⟩ m cp ys hl hcells h1 (by unfold maxLen; omega) (by have := Nat.mul_le_mul (show n + m ≤ 200000 by omega) hby; omega) hB
    exact ⟨v', w', hr, h2, (Below.refl _ w).grown h3 hB (fun j hj => (hO.lt j hj).1), h3⟩
theorem build_nil (hu : P.underlying t = some (.slice e)) (hinfo : (P.info? e).map (fun i => (i.zero, i.size, i.bytes)) = some (some z, s, bytes)) (w : World) : (Instr.buildSlice t 0 #[]).run P w = .ok (.slice (some ⟨w.heap.size, 0, none⟩) 0 0) (w.alloc (.cells #[] e)) := by
  obtain ⟨i0, hi, hz0, hz1, hz2⟩ := info_parts hinfo
  simp [Instr.buildSlice, run_underlying hu, sizeOf, typeInfo, hi, newRow, go_sem]
theorem own_nil (w : World) (e s : Nat) : (w.alloc (.cells #[] e)).ownsRow w.heap.size e s (.slice (some ⟨w.heap.size, 0, none⟩) 0 0) 0 [] :=
  ⟨by simp, .inr ⟨w.heap.size, 0, #[], rfl, Nat.le_refl _, heap_alloc_last w _, Nat.le_refl _, by simp [maxLen], by simp, by simp⟩⟩
/-- A slice up to k, from k on. -/
theorem cut_to (hu : P.underlying t = some (.slice (P.elem t))) (hs : ∀ w, (sizeOf (P.elem t)).run P w = .ok s w) (a : Option Addr) (n c k : Nat) (w : World) (h : k ≤ c) : (Instr.slice t (.slice a n c) none (some (.int .i64 (k : Int))) none).run P w = .ok (.slice a k c) w := by
  have q := run_slice_h (P := P) w t a n c hu .i64 (k : Int) (by omega) (by omega)
  rw [q, hs]
  cases a <;> simp [sliced, Result.andThen, Addr.add]
theorem cut_from (hu : P.underlying t = some (.slice (P.elem t))) (hs : ∀ w, (sizeOf (P.elem t)).run P w = .ok s w) (a : Option Addr) (n c k : Nat) (w : World) (h : k ≤ n) : (Instr.slice t (.slice a n c) (some (.int .i64 (k : Int))) none none).run P w = .ok (.slice (fromS s a c k) (n - k) (c - k)) w := by
  have q := run_slice_l (P := P) w t a n c hu .i64 (k : Int) (by omega) (by omega)
  rw [q, hs]
  by_cases hk : c = k <;> cases a <;> simp [sliced, Result.andThen, fromS, hk]
end
end Go.Proofs.Ytglglhcnofbagaa
