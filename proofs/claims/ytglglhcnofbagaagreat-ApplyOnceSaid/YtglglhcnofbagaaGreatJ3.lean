/-
  The contract of the reference's reading of a message: what flds says of the bytes.
  Conditions: as typed. The contracts of the reference's writing of a field, and of its size.
  Conditions: as typed. The contracts of the functions on lists of fields: big, SameFields; and of near at 0.
  Conditions: as typed. Operations one at a time: in a plain region, in a region that draws its order and keeps a class of worlds, and by an invariant. No function of the program. A string as a list of numbers. (Out of stage 5's texts.)
-/
import Derived.Test.YtglglhcnofbagaaGreatJ2
import Derived.Deep.QuietTactic
import Derived.BigQuiet
import Derived.Test.YtglglhcnofbagaaGreatProg
import Derived.WalkKit
import Derived.WalkSpells
import Derived.WalkLawsBesides
import Derived.Laws.BitsAllLaws
import Derived.Deep.LoopGhost
import Derived.Deep.RegionHeld3
import Derived.Deep.Quiet
import Derived.Deep.Cut
import Derived.Deep.DeepCutAuto
import Derived.Deep.WholeRow
import Derived.Deep.MidRow
import Derived.Deep.Slices
import Derived.Great.BuildSlice
import Derived.Lib.Hide
import Derived.KernelRfl
import Derived.OneCell
import Derived.OpenShut
import Derived.Below
import Derived.Maps.AppendAt
import Derived.Test.YtglglhcnofbagaaGreatJ1
namespace Go.Proofs.YtglglhcnofbagaaGreat
set_option maxRecDepth 100000
open Go.RowKit

set_option maxHeartbeats 2000000 in
set_option maxRecDepth 100000 in
theorem ref_fields (a : Option Addr) (c : Nat) (L : List Int) (w : World) (hL : L.length ≤ 1000000) (hr : Sl w a c L) (hw : ∀ x, x ∈ L → W8 x) (hc : L.length ≤ c) :
    Calls Tryz.prog 58 #[.slice a L.length c] w (FldsR w (flds L)) := by
  obtain ⟨i0, hi, hz0, hz1, hz2⟩ := info_parts info25
  have HI := Lib.hid hi
  have HZ0 := Lib.hid hz0
  have HZ1 := Lib.hid hz1
  have HZ2 := Lib.hid hz2
  have HD : Hid (flds L = fldsG (L.length + 1) [] 0 (L.drop 0)) := rfl
  have HR := Lib.hid hr
  have HW := Lib.hid hw
  generalize flds L = Res at *
  clear hi hz0 hz1 hz2 hr hw
  go_enter Tryz.func58, Tryz.ntmps58
  go_wp2_with fail
  go_loopg [5, 6] L.length (fun g s2 s6 wx => ∃ (i f : Nat) (ps : List (Fld × Value)), s6 = .int .i64 (i : Int) ∧ i ≤ L.length ∧ L.length - i < f ∧ ps.length ≤ 1024 ∧
    Hid (Res = fldsG f (ps.map Prod.fst) i (L.drop i)) ∧ Hid (RowB wx w.heap.size s2 ps) ∧ Below w.heap.size w wx ∧ L.length - i = g)
  case atStart => exact ⟨0, L.length + 1, [], rfl, by omega, by omega, by simp, HD, RowB.nil _ _, Below.refl _ _, rfl⟩
  case round =>
    obtain ⟨i, f, ps, rfl, hi, hf, hps, hd, hrow, hb, rfl⟩ := hrel
    have hsz := hb.size
    obtain ⟨va, vc, rfl, hvc⟩ := hrow.out.form
    obtain ⟨f', rfl⟩ : ∃ f', f = f' + 1 := ⟨f - 1, by omega⟩
    have hlR : (L.drop i).length = L.length - i := List.length_drop
    by_cases h0 : L.length - i = 0
    · have hfin : Res = (ps.map Prod.fst, 0, 0) := by rw [hd.out, flds_end (by omega)]
      have hlt : ¬ i < L.length := by omega
      have HFIN := Lib.hid hfin
      clear hd h0 hfin hlR
      go_wp2
      go_ret3
      exact fldsR_ok HFIN.out hrow.out hb
    · have hpos : i < L.length := by omega
      by_cases h1 : ps.length = 1024
      · have hfin : Res = ([], (i : Int), 3) := by rw [hd.out, flds_limit (by omega) (by simp; omega)]
        have hq : (1024 : Int) ≤ (ps.length : Int) := by omega
        have HFIN := Lib.hid hfin
        clear hd h0 hfin h1 hlR
        go_wp2
        go_ret3
        exact fldsR_err HFIN.out rfl hb
      · have hq : ¬ (1024 : Int) ≤ (ps.length : Int) := by omega
        have hps2 : ps.length + 1 ≤ 1024 := by omega
        have HSR := Lib.hid (sl_from HR.out i hc)
        have hRw := Lib.hid (drop_bytes HW.out i)
        have cF : ∀ wx, Sl wx (fromA a c i) (c - i) (L.drop i) → Calls Tryz.prog 79 #[.slice (fromA a c i) (L.length - i) (c - i)] wx (OneR wx (onef (L.drop i))) := fun wx hs => by
          have := ref_one (fromA a c i) (c - i) (L.drop i) wx (by omega) hs hRw.out (by omega)
          rw [hlR] at this
          exact this
        have hsl := fun wx => slice_from .i64 a L.length c i wx hi
        rcases one_inv (L.drop i) hRw.out (by omega) with ⟨e0, ho, he⟩ | ⟨x, hx, ho, hle, -⟩
        · have hfin : Res = ([], (i : Int), e0) := by rw [hd.out, flds_err (by omega) (by simp; omega) ho he]
          rw [ho] at cF
          have h3 : (e0 != 0) = true := by simpa using he
          have h4 : (e0 == 0) = false := by simpa using he
          have HFIN := Lib.hid hfin
          clear hd h0 h1 ho he hfin hlR
          go_wp2_with fail
          refine (cF _ (sl_below HSR.out hb)).mono ?_
          rintro e w2 ⟨v2, rfl, ho2, hb2⟩
          have hb3 := bnext hb hb2
          obtain ⟨a2, c2, rfl, -, -⟩ := ho2.sl
          clear cF hb2 ho2
          go_wp2
          go_ret3
          exact fldsR_err HFIN.out rfl (hb3.alloc hb3.size _)
        · have hd2 : Res = fldsG f' ((ps ++ [(x, Value.slice none 0 0)]).map Prod.fst) (i + (encF x).length) (L.drop (i + (encF x).length)) := by
            rw [hd.out, flds_next (by omega) (by simp; omega) ho, List.drop_drop]
            simp
          rw [ho] at cF
          have hs2 := encF_pos x
          have hlB := hx.2.2.2
          rw [hlR] at hle
          generalize (encF x).length = sz at *
          have HD2 := Lib.hid hd2
          clear hd h0 h1 ho hd2 hlR
          go_wp2_with fail
          refine (cF _ (sl_below HSR.out hb)).mono ?_
          rintro e w2 ⟨v2, rfl, ho2, hb2⟩
          have hb3 := bnext hb hb2
          have hrow2 := hrow.out.below hb2
          obtain ⟨a2, c2, rfl, -, -⟩ := ho2.sl
          have HO2 := Lib.hid (ho2.base hsz)
          have HR2 := Lib.hid hrow2
          clear cF hb2 ho2 hrow hrow2
          go_wp2_with (at_builtin; refine wpList_append_own _ rfl _ _ 86 rfl w.heap.size 91 i0 (.agg #[.int .i64 0, .int .i64 0, .int .u64 0, .slice none 0 0]) 4 48 Tryz.underlying86 HI.out HZ0.out HZ1.out HZ2.out rfl (by decide) (.slice va ps.length vc) ps.length (row4 ps) rfl ((HR2.out.1.alloc _).alloc _) ⟨w2.heap.size + 1, 0, none⟩ 1 1 (cellsOf (x, .slice a2 x.bytes.length c2)) rfl rfl (cells_of_new _ (x, .slice a2 x.bytes.length c2) _ (by simp)) (cells_one (p := (x, .slice a2 x.bytes.length c2)) HO2.out) ?c1 ?c2 ?c3 ?_)
          case c1 => unfold maxLen; omega
          case c2 => omega
          case c3 => have := hb3.size; simp; omega
          intro v3 w3 hown3 hgrow3 _
          have HR3 := Lib.hid (RowB.step (p := (x, Value.slice a2 x.bytes.length c2)) (HR2.out.below ((Below.refl _ _).alloc (Nat.le_refl _) _)) (HO2.out.below ((Below.refl _ _).alloc (Nat.le_refl _) _)) hown3 hgrow3)
          have hb4 : Below w.heap.size w w3 := ((hb3.alloc hb3.size _).alloc (by have := hb3.size; simp; omega) _).grown hgrow3 (by have := hb3.size; simp; omega) (fun j hj => (HR2.out.1.lt j hj).1)
          clear hown3 hgrow3 HR2 HO2
          have HD3 : Hid (Res = fldsG f' ((ps ++ [(x, Value.slice a2 x.bytes.length c2)]).map Prod.fst) (i + sz) (L.drop (i + sz))) := Lib.hid (HD2.out.trans (by simp))
          have h7 : i + sz ≤ L.length := by omega
          have h9 : L.length - (i + sz) < f' := by omega
          have h10 : L.length - (i + sz) < L.length - i := by omega
          have h11 : (ps ++ [(x, Value.slice a2 x.bytes.length c2)]).length ≤ 1024 := by rw [List.length_append, List.length_singleton]; omega
          clear HD2
          go_wp2_with fail
          go_roundg (L.length - (i + sz))
          case measure => exact h10
          case rel => exact ⟨i + sz, f', _, by go_num, h7, h9, h11, HD3, HR3, hb4, rfl⟩
end Go.Proofs.YtglglhcnofbagaaGreat
namespace Go.Proofs.YtglglhcnofbagaaGreat
set_option maxRecDepth 100000
open Go.RowKit

/-- 'append' to a row of the call's own, from whatever source, inside a region that draws its order. -/
theorem step_append_src {P : Program} {w : World} {ops : Array Oper} {o : Oper} {a : Act} {K : Act → World → Prop} {Q : Exit → Act → World → Prop} {E : Prop} (hgd : o.guard = none) (s x : Operand) (t : TypeId)
    (ho : o.op = .call { callee := .builtin .append, args := #[s, x], argTypes := #[t, t] })
    (base : Nat) (i : TypeInfo) (ht : P.underlying t = some (.slice 5)) (hi : P.info? 5 = some i) (hz : i.zero = some (.int .u8 0)) (hsize : i.size = 1) (hby : i.bytes = 1)
    (v : Value) (n : Nat) (xs : List Value) (hs : a.eval s = v) (hown : w.ownsRow base 5 1 v n xs)
    (ad : Option Addr) (m c : Nat) (L : List Int) (hx : a.eval x = .slice ad m c) (hm : L.length = m) (hr : Sl w ad c L) (hb : n + m ≤ 140737488355328) (hbase : base ≤ w.heap.size)
    (h : ∀ v' w', w'.ownsRow base 5 1 v' (n + m) (xs ++ L.map (Value.int .u8)) → w.grownBy w' v.ownBlock → K (a.put o.dst v') w') :
    if Region.wanted o (yielded ops a.tmps) = true then Oper.wp P o a w K Q else E := by
  have hw : Region.wanted o (yielded ops a.tmps) = true := by simp [Region.wanted, hgd]
  rw [if_pos hw]
  subst hm
  rcases hr with ⟨rfl, rfl, rfl⟩ | ⟨y, rfl, hy⟩
  · have hrun := run_append_owned_none (P := P) (w := w) base t o.type 5 i 1 ht hi v n xs hown
    unfold Oper.wp
    simp [execOp, ho, resolve, invoke, builtin, hs, hx, hrun, Result.andThen]
    exact h v w (by simpa using hown) (World.grownBy.refl w _)
  · refine wp_append_own w s x t ho base 5 i (.int .u8 0) 1 1 ht hi hz hsize hby rfl (by decide) v n xs hs hown y L.length c (L.map (Value.int .u8)) hx (by simp) ?_ (ints_oneCell _ _) (by unfold maxLen; omega) (by omega) hbase (fun v' w' h1 h2 _ => h v' w' h1 h2)
    intro j u hj
    have hj' : j < L.length := by
      rcases Nat.lt_or_ge j L.length with h | h
      · exact h
      · rw [List.getElem?_eq_none (by simpa using h)] at hj; cases hj
    obtain ⟨b, off, rfl, hc⟩ := hy j hj'
    rw [Go.WideShapes.add_plain, hc]
    rw [List.getElem?_map, List.getElem?_eq_getElem hj'] at hj
    rw [List.getD_eq_getElem?_getD, List.getElem?_eq_getElem hj']
    exact hj

theorem far_own {w w' : World} {B g o n : Nat} {v u : Value} {xs : List Value} (hgrow : w.grownBy w' v.ownBlock) (ho : w.ownsRow B 5 1 v n xs) (hg : g < B) (hc : w.cell? ⟨g, o, none⟩ = some u) : w'.cell? ⟨g, o, none⟩ = some u := by
  refine hgrow.cell hc (fun e => ?_)
  have := (ho.lt _ e.symm).1
  simp only at this
  omega

set_option maxHeartbeats 2000000 in
theorem ref_field_bad (a : Option Addr) (len c : Nat) (num kind val : Int) (b : Option Addr) (n d : Nat) (w : World) (hv : ¬ Vfi num kind val n) :
    Calls Tryz.prog 65 #[.slice a len c, .agg #[.int .i64 num, .int .i64 kind, .int .u64 val, .slice b n d]] w fun e w' => e = .returned (.tuple #[.slice none 0 0, .int .i64 1]) ∧ Below w.heap.size w w' := by
  have cV := ref_right num kind val b n d
  rw [vldB_false hv] at cV
  go_enter Tryz.func65, Tryz.ntmps65
  go_wp2_with fail
  refine (cV _).mono ?_
  rintro e w1 ⟨rfl, hb1⟩
  have hb := bnext ((Below.refl _ w).alloc (Nat.le_refl _) (.cells #[.int .i64 num, .int .i64 kind, .int .u64 val, .slice b n d] 91)) hb1
  clear cV hb1
  go_wp2
  go_ret2
  exact ⟨rfl, hb⟩

set_option maxHeartbeats 2000000 in
theorem ref_field (a : Option Addr) (c : Nat) (L : List Int) (num kind val : Int) (b : Option Addr) (d : Nat) (B : List Int) (w : World) (hL : L.length ≤ 900000) (hB : B.length ≤ 1000000) (hr : Sl w a c L) (hs : Sl w b d B) (hv : Vfi num kind val B.length) (hw : W64 val) :
    Calls Tryz.prog 65 #[.slice a L.length c, .agg #[.int .i64 num, .int .i64 kind, .int .u64 val, .slice b B.length d]] w fun e w' => ∃ v, e = .returned (.tuple #[v, .int .i64 0]) ∧ Own w' w.heap.size v (L ++ encI num kind val B) ∧ Below w.heap.size w w' := by
  have cV := ref_right num kind val b B.length d
  rw [vldB_true hv] at cV
  have hn0 := hv.1
  have hn1 := hv.2.1
  have htb : W64 (8 * num + kind) := by unfold W64; unfold Vfi at hv; omega
  have cA := fun w hr => ref_append a c L (8 * num + kind) w (by omega) hr htb
  have hEl := Enc_len (8 * num + kind)
  have hfin : L ++ encI num kind val B = ((L ++ Enc (8 * num + kind)) ++ Enc (secI kind val B.length)) ++ B := by simp [encI]
  have hlen : (L ++ Enc (8 * num + kind)).length ≤ 1000000 := by rw [List.length_append]; omega
  have hx0 := box_new w num kind val b B.length d
  have hb0 := (Below.refl _ w).alloc (Nat.le_refl _) (.cells #[.int .i64 num, .int .i64 kind, .int .u64 val, .slice b B.length d] 91)
  rcases hv.2.2 with ⟨rfl, hb⟩ | ⟨rfl, rfl⟩
  · obtain rfl : B = [] := List.eq_nil_of_length_eq_zero hb
    have hsec : secI 0 val ([] : List Int).length = val := rfl
    rw [hsec, List.append_nil] at hfin
    have cB := fun a c w hr => ref_append a c (L ++ Enc (8 * num + 0)) val w hlen hr hw
    have e8 : 8 * num + 0 = num * 8 := by omega
    rw [e8] at cA hEl hlen hfin
    simp only [e8] at cB
    clear e8 htb
    generalize Enc (num * 8) = E1 at *
    generalize L ++ E1 = M at *
    generalize Enc val = E2 at *
    have HFIN := Lib.hid hfin
    have HR := Lib.hid hr
    clear hfin hr hs hv hsec hb
    go_enter Tryz.func65, Tryz.ntmps65
    go_wp2_with fail
    refine (cV _).mono ?_
    rintro e w1 ⟨rfl, hb1⟩
    have hx := hx0.below hb1
    have hb := bnext hb0 hb1
    obtain ⟨k0, k1, k2, k3⟩ := hx
    have k1' : w1.cell? ⟨w.heap.size, 1, none⟩ = some (.int .i64 0) := k1
    have k2' : w1.cell? ⟨w.heap.size, 2, none⟩ = some (.int .u64 val) := k2
    have hlt : w.heap.size < w1.heap.size := Box.lt ⟨k0, k1, k2, k3⟩
    clear cV hb1 k1 k2 k3 hx0 hb0
    go_wp2_with fail
    refine (cA _ (sl_below HR.out hb)).mono ?_
    rintro e w2 ⟨v2, rfl, ho2, hb2⟩
    have hb3 := bnext hb hb2
    have k2 := (hb2.cell (p := ⟨w.heap.size, 2, none⟩) hlt).trans k2'
    have k1 := (hb2.cell (p := ⟨w.heap.size, 1, none⟩) hlt).trans k1'
    obtain ⟨a2, c2, rfl, s2, -⟩ := Own.sl ho2
    clear k1' k2' k0 hb hb2 ho2 cA
    go_wp2_with fail
    refine (cB _ _ _ s2).mono ?_
    rintro e w3 ⟨v3, rfl, ho3, hb4⟩
    have hb5 := bnext hb3 hb4
    have HO : Hid (Own w3 w.heap.size v3 (L ++ encI num 0 val [])) := by rw [HFIN.out]; exact Lib.hid (Own.base ho3 hb3.size)
    clear cB ho3 hb4 s2
    go_wp2
    go_ret2
    exact ⟨_, rfl, HO.out, hb5⟩
  · have hsec : secI 2 0 B.length = (B.length : Int) := rfl
    rw [hsec] at hfin
    have hwB : W64 (B.length : Int) := by unfold W64; omega
    have cB := fun a c w hr => ref_append a c (L ++ Enc (8 * num + 2)) (B.length : Int) w hlen hr hwB
    have hE2 := Enc_len (B.length : Int)
    have e8 : 8 * num + 2 = num * 8 + 2 := by omega
    rw [e8] at cA hEl hlen hfin
    simp only [e8] at cB
    clear e8 htb
    generalize Enc (num * 8 + 2) = E1 at *
    generalize L ++ E1 = M at *
    have HFIN := Lib.hid hfin
    have HR := Lib.hid hr
    have HS := Lib.hid hs
    have hM2 : (M ++ Enc (B.length : Int)).length ≤ 2000000 := by rw [List.length_append]; omega
    generalize M ++ Enc (B.length : Int) = M2 at *
    obtain ⟨i0, hi, hz0, hz1, hz2⟩ := info_parts info5
    have HI := Lib.hid hi
    have HZ0 := Lib.hid hz0
    have HZ1 := Lib.hid hz1
    have HZ2 := Lib.hid hz2
    clear hfin hr hs hv hsec hi hz0 hz1 hz2 hE2
    go_enter Tryz.func65, Tryz.ntmps65
    go_wp2_with fail
    refine (cV _).mono ?_
    rintro e w1 ⟨rfl, hb1⟩
    have hx := hx0.below hb1
    have hb := bnext hb0 hb1
    obtain ⟨k0, k1, k2, k3⟩ := hx
    have k1' : w1.cell? ⟨w.heap.size, 1, none⟩ = some (.int .i64 2) := k1
    have k3' : w1.cell? ⟨w.heap.size, 3, none⟩ = some (.slice b B.length d) := k3
    have hlt : w.heap.size < w1.heap.size := Box.lt ⟨k0, k1, k2, k3⟩
    clear cV hb1 k1 k2 k3 hx0 hb0
    go_wp2_with fail
    refine (cA _ (sl_below HR.out hb)).mono ?_
    rintro e w2 ⟨v2, rfl, ho2, hb2⟩
    have hb3 := bnext hb hb2
    have k3 := (hb2.cell (p := ⟨w.heap.size, 3, none⟩) hlt).trans k3'
    have k1 := (hb2.cell (p := ⟨w.heap.size, 1, none⟩) hlt).trans k1'
    have hlt2 : w.heap.size < w2.heap.size := Nat.lt_of_lt_of_le hlt hb2.size
    obtain ⟨a2, c2, rfl, s2, -⟩ := Own.sl ho2
    clear k1' k3' k0 hb hb2 ho2 cA
    go_wp2_with fail
    have hc1 : M2.length + B.length ≤ 140737488355328 := by omega
    have hwr : IntKind.u64.wrap (B.length : Int) = (B.length : Int) := by rw [IntKind.wrap_u64]; omega
    go_region_held3 (fun wx => wx.cell? ⟨w.heap.size, 3, none⟩ = some (.slice b B.length d)) (first | exact k6 | exact k5 | exact k3) (first
      | (go_at_call 84; refine (cB _ _ w2.drew s2).mono ?_; rintro e w5 ⟨v5, rfl, ho5, hb5⟩; have k5 := (hb5.cell (p := ⟨w.heap.size, 3, none⟩) hlt2).trans k3; have hb6 := bnext hb3.drew hb5)
      | (refine step_append_src rfl _ _ 26 rfl w2.heap.size i0 Tryz.underlying26 HI.out HZ0.out HZ1.out HZ2.out _ _ _ rfl ho5 b B.length d B rfl rfl (sl_below HS.out hb6) hc1 hb5.size ?_; intro v6 w6 ho6 hgrow; have hb7 := after_append (w0 := w) hb3.size hb6.size ho5 hb6 hgrow; have k6 := far_own hgrow ho5 hlt2 k5))
    have HO : Hid (Own w6 w.heap.size v6 (L ++ encI num 2 0 B)) := by
      rw [HFIN.out]
      show w6.ownsRow _ _ _ _ _ _
      rw [List.length_append, List.map_append]
      exact own_base ho6 hb3.size
    clear cB ho6 hgrow hb6 s2 ho5 hb5
    go_wp2
    go_ret2
    exact ⟨_, rfl, HO.out, hb7⟩

end Go.Proofs.YtglglhcnofbagaaGreat
namespace Go.Proofs.YtglglhcnofbagaaGreat
set_option maxRecDepth 100000
open Go.RowKit

/-- A slice of fields at a reads as the list ps: each field's cells, and its bytes. -/
def Fs (w : World) (a : Option Addr) (ps : List (Fld × Value)) : Prop :=
  ∀ i p, ps[i]? = some p → ∃ b off ba bc, a = some ⟨b, off, none⟩ ∧ p.2 = .slice ba p.1.bytes.length bc ∧ Sl w ba bc p.1.bytes ∧ Box w b (off + i * 4) p.1.num p.1.kind p.1.val ba p.1.bytes.length bc

/-- The number of fields and of their bytes. -/
def bulkF (ps : List (Fld × Value)) : Nat := ps.length + (ps.map fun p => p.1.bytes.length).sum

theorem sum_take (l : List Nat) (k : Nat) (h : k < l.length) : (l.take (k + 1)).sum = (l.take k).sum + l[k] := by
  rw [List.take_succ_eq_append_getElem h, List.sum_append]
  simp
theorem sum_take_le (l : List Nat) (k : Nat) : (l.take k).sum ≤ l.sum := by
  have h : l.sum = (l.take k).sum + (l.drop k).sum := by rw [← List.sum_append, List.take_append_drop]
  omega

end Go.Proofs.YtglglhcnofbagaaGreat
namespace Go.Proofs.YtglglhcnofbagaaGreat
open Go.RowKit

/-- An operation with a known result. -/
theorem run_to {P : Program} {ops : Array Oper} {rest : List Oper} {o : Oper} {a : Act} {w : World} {Q : Exit → Act → World → Prop} (hgd : o.guard = none) (d : Option Tmp) (hd : o.dst = d)
    (v : Value) (w2 : World) (hr : (execOp a.eval o).run P w = .ok (.value v) w2) (k : wpList P ops Q rest (a.put d v) w2) : wpList P ops Q (o :: rest) a w := by
  rw [← hd] at k
  apply wpList_plain hgd
  intro K hK
  rw [Oper.wp, hr, Oper.upon_value]
  exact hK _ _ k
/-- The end of a function without results. -/
theorem end_none {P : Program} {fn : Func} {R : Ending → World → Prop} {a : Act} {w : World} (h : fn.results = #[]) (hd : a.defers = []) (hR : R (.returned (.tuple #[])) w) : bodyPost P fn R .normal a w :=
  bodyPost_end (results_none h _ _ _) hd hR
/-- A whole array goes into the block that was made last: at a plain region's list. -/
theorem wpList_store_new {P : Program} {ops : Array Oper} {rest : List Oper} {op : Oper} {a : Act} {w : World} {Q : Exit → Act → World → Prop} (hgd : op.guard = none) (ty : TypeId) (x y : Operand) (ho : op.op = .store ty x y)
    (c c' : Array Value) (hx : a.eval x = .pointer (some ⟨w.heap.size, 0, none⟩)) (hy : a.eval y = .agg c')
    (hi : (P.info? ty).map (·.size) = some c'.size) (hz : c.size = c'.size) (h1 : c'.all (·.oneCell') = true)
    (h : wpList P ops Q rest (a.put op.dst undef) (w.alloc (.cells c' ty))) : wpList P ops Q (op :: rest) a (w.alloc (.cells c ty)) :=
  wpList_plain hgd fun K hK => by
    unfold Oper.wp execOp
    simp only [ho, hx, hy, Sem.run_bind, run_storeAt_new w ty c c' hi hz h1]
    exact hK _ _ h
theorem wp_region_class {P : Program} {id : Nat} {Q : Exit → Act → World → Prop} {a : Act} {w : World} {l : List Oper} (C : World → Prop) (hm : P.follows .mixedOrders = true) (hB : Region.lexB .any l.toArray = true) (hC : C { w with drawn := w.drawn + 1 })
    (h : wpQuiet P l.toArray C (fun a' => ∀ w', C w' → Q .normal a' w') l a) : (Code.region id l.toArray true).wp P Q a w :=
  wp_region_quiet (C := C) hm hB hC (by simpa using h)
/-- 'append' at the operation, its run known. -/
theorem pu1 (a : Act) (t : Tmp) (v : Value) : a.put (some t) v = { a with tmps := a.tmps.setIfInBounds t v } := rfl
theorem pu2 {α : Type} (l : List α) (i : Nat) (x : α) : l.toArray.setIfInBounds i x = (l.set i x).toArray := List.setIfInBounds_toArray ..
theorem pu3 {α : Type} (l : List α) (i : Nat) (x y : α) : (x :: l).set (i + 1) y = x :: l.set i y := rfl
theorem pu4 {α : Type} (l : List α) (x y : α) : (x :: l).set 0 y = y :: l := rfl
theorem append_step {P : Program} {w : World} {ops : Array Oper} {rest : List Oper} {o : Oper} {a : Act} {Q : Exit → Act → World → Prop} (hgd : o.guard = none) (d : Option Tmp) (hd : o.dst = d) (ty : TypeId) (hty : o.type = ty) (s x : Operand) (t : TypeId)
    (ho : o.op = .call { callee := .builtin .append, args := #[s, x], argTypes := #[t, t] }) (v u v' : Value) (w' : World) (hs : a.eval s = v) (hx : a.eval x = u)
    (hr : (Builtin.append_ #[t, t] ty #[v, u]).run P w = .ok v' w') (k : wpList P ops Q rest (a.put d v') w') : wpList P ops Q (o :: rest) a w := by
  subst hd
  subst hty
  refine wpList_plain hgd fun K hK => ?_
  unfold Oper.wp execOp
  simp only [ho, resolve, invoke, builtin, Sem.run_bind, Sem.run_pure, Result.andThen_ok, List.map_toArray, List.map_cons, List.map_nil, hs, hx, hr]
  exact hK _ _ k
/-- A slice that is written out, at the operation. -/
theorem build_to {P : Program} {ops : Array Oper} {rest : List Oper} {o : Oper} {a : Act} {w : World} {Q : Exit → Act → World → Prop} (hgd : o.guard = none) (d : Option Tmp) (hd : o.dst = d) (t : TypeId) (len : Nat) (parts : Array (Nat × Operand)) (ho : o.op = .buildSlice t len parts)
    (vs : Array (Nat × Value)) (hp : (parts.map fun (i, x) => (i, a.eval x)) = vs) (v : Value) (w2 : World) (hr : (Instr.buildSlice t len vs).run P w = .ok v w2) (k : wpList P ops Q rest (a.put d v) w2) : wpList P ops Q (o :: rest) a w := by
  refine run_to hgd d hd v w2 ?_ k
  unfold execOp
  simp only [ho, Sem.run_bind, hp, hr, Result.andThen_ok]
  rfl
section
variable {P : Program} {ops : Array Oper} {rest : List Oper} {o : Oper} {a : Act} {w : World} {Q : Exit → Act → World → Prop}

theorem gw_val (hw : Region.wanted o (yielded ops a.tmps) = true) (d : Option Tmp) (hd : o.dst = d) (v : Value) (hr : (execOp a.eval o).run P w = .ok (.value v) w) (k : wpList P ops Q rest (a.put d v) w) : wpList P ops Q (o :: rest) a w := by
  rw [← hd] at k
  apply wpList_step
  intro K hK
  rw [if_pos hw, Oper.wp, hr, Oper.upon_value]
  exact hK _ _ k
theorem gw_new (hw : Region.wanted o (yielded ops a.tmps) = true) (d : Option Tmp) (hd : o.dst = d) (v : Value) (w2 : World) (hr : (execOp a.eval o).run P w = .ok (.value v) w2) (k : wpList P ops Q rest (a.put d v) w2) : wpList P ops Q (o :: rest) a w := by
  rw [← hd] at k
  apply wpList_step
  intro K hK
  rw [if_pos hw, Oper.wp, hr, Oper.upon_value]
  exact hK _ _ k
theorem gw_not (hw : Region.wanted o (yielded ops a.tmps) = false) (d : Option Tmp) (hd : o.dst = d) (k : wpList P ops Q rest (a.put d undef) w) : wpList P ops Q (o :: rest) a w := by
  rw [← hd] at k
  exact wpList_skip hw k
theorem gw_call (hw : Region.wanted o (yielded ops a.tmps) = true) (d : Option Tmp) (hd : o.dst = d) (f : FuncId) (args : Array Value) (v : Value) (S : World → Prop) (hr : (execOp a.eval o).run P w = .ok (.enter f args) w)
    (hc : Calls P f args w fun e w' => e = .returned v ∧ S w') (k : ∀ w', S w' → wpList P ops Q rest (a.put d v) w') : wpList P ops Q (o :: rest) a w := by
  rw [← hd] at k
  apply wpList_step
  intro K hK
  rw [if_pos hw, Oper.wp, hr]
  refine hc.mono ?_
  rintro e w' ⟨rfl, hS⟩
  exact hK _ _ (k w' hS)
theorem gw_load (hw : Region.wanted o (yielded ops a.tmps) = true) (d : Option Tmp) (hd : o.dst = d) (ty : TypeId) (x : Operand) (ho : o.op = .load ty x) (ad : Addr) (v : Value)
    (hx : a.eval x = .pointer (some ad)) (hl : (Instr.loadAt ty (.pointer (some ad))).run P w = .ok v w) (k : wpList P ops Q rest (a.put d v) w) : wpList P ops Q (o :: rest) a w := by
  refine gw_val hw d hd v ?_ k
  unfold execOp
  simp only [ho, hx, Sem.run_bind, hl]
  rfl
theorem gw_slice_to (hw : Region.wanted o (yielded ops a.tmps) = true) (d : Option Tmp) (hd : o.dst = d) (ty : TypeId) (x h : Operand) (ho : o.op = .slice ty x none (some h) none) (vx vh v : Value) (hx : a.eval x = vx) (hh : a.eval h = vh)
    (hs : (Instr.sliceAt ty vx none (some vh) none).run P w = .ok v w) (k : wpList P ops Q rest (a.put d v) w) : wpList P ops Q (o :: rest) a w := by
  refine gw_val hw d hd v ?_ k
  unfold execOp
  simp only [ho, hx, hh, Option.map_some, Option.map_none, Sem.run_bind, hs]
  rfl
theorem gw_build (hw : Region.wanted o (yielded ops a.tmps) = true) (d : Option Tmp) (hd : o.dst = d) (t : TypeId) (len : Nat) (parts : Array (Nat × Operand)) (ho : o.op = .buildSlice t len parts)
    (vs : Array (Nat × Value)) (hp : (parts.map fun (i, x) => (i, a.eval x)) = vs) (v : Value) (w2 : World) (hr : (Instr.buildSlice t len vs).run P w = .ok v w2) (k : wpList P ops Q rest (a.put d v) w2) : wpList P ops Q (o :: rest) a w := by
  refine gw_new hw d hd v w2 ?_ k
  unfold execOp
  simp only [ho, Sem.run_bind, hp, hr, Result.andThen_ok]
  rfl
end
section
variable {P : Program} {C : World → Prop} {ops : Array Oper} {Q : Act → Prop} {a : Act} {o : Oper} {rest : List Oper}

theorem gq_val (hw : Region.wanted o (yielded ops a.tmps) = true) (d : Option Tmp) (hd : o.dst = d) (v : Value) (hr : ∀ w, C w → (execOp a.eval o).run P w = .ok (.value v) w) (h : wpQuiet P ops C Q rest (a.put d v)) : wpQuiet P ops C Q (o :: rest) a := by
  rw [← hd] at h
  unfold wpQuiet
  rw [if_pos hw]
  refine ⟨v, fun w hC => ?_, h⟩
  unfold Oper.quietAt
  rw [hr w hC]
  exact ⟨rfl, rfl⟩
theorem gq_not (hw : Region.wanted o (yielded ops a.tmps) = false) (d : Option Tmp) (hd : o.dst = d) (h : wpQuiet P ops C Q rest (a.put d undef)) : wpQuiet P ops C Q (o :: rest) a := by
  rw [← hd] at h
  unfold wpQuiet
  rw [if_neg (by rw [hw]; decide)]
  exact h
theorem gq_call (hw : Region.wanted o (yielded ops a.tmps) = true) (d : Option Tmp) (hd : o.dst = d) (f : FuncId) (args : Array Value) (v : Value) (hr : ∀ w, C w → (execOp a.eval o).run P w = .ok (.enter f args) w)
    (hc : ∀ w, C w → Calls P f args w (fun e w'' => e = .returned v ∧ C w'')) (h : wpQuiet P ops C Q rest (a.put d v)) : wpQuiet P ops C Q (o :: rest) a := by
  rw [← hd] at h
  unfold wpQuiet
  rw [if_pos hw]
  refine ⟨v, fun w hC => ?_, h⟩
  unfold Oper.quietAt
  rw [hr w hC]
  exact ⟨rfl, hc w hC⟩
theorem gq_load (hw : Region.wanted o (yielded ops a.tmps) = true) (d : Option Tmp) (hd : o.dst = d) (ty : TypeId) (x : Operand) (ho : o.op = .load ty x) (ad : Addr) (v : Value)
    (hx : a.eval x = .pointer (some ad)) (hl : ∀ w, C w → (Instr.loadAt ty (.pointer (some ad))).run P w = .ok v w) (h : wpQuiet P ops C Q rest (a.put d v)) : wpQuiet P ops C Q (o :: rest) a := by
  refine gq_val hw d hd v (fun w hC => ?_) h
  unfold execOp
  simp only [ho, hx, Sem.run_bind, hl w hC]
  rfl
end
/-- A call whose value is not known beforehand. -/
theorem gw_callE {P : Program} {ops : Array Oper} {rest : List Oper} {o : Oper} {a : Act} {w : World} {Q : Exit → Act → World → Prop} (hw : Region.wanted o (yielded ops a.tmps) = true) (d : Option Tmp) (hd : o.dst = d) (f : FuncId) (args : Array Value) (S : Value → World → Prop) (hr : (execOp a.eval o).run P w = .ok (.enter f args) w)
    (hc : Calls P f args w fun e w' => ∃ v, e = .returned v ∧ S v w') (k : ∀ v w', S v w' → wpList P ops Q rest (a.put d v) w') : wpList P ops Q (o :: rest) a w := by
  rw [← hd] at k
  apply wpList_step
  intro K hK
  rw [if_pos hw, Oper.wp, hr]
  refine hc.mono ?_
  rintro e w' ⟨v, rfl, hS⟩
  exact hK _ _ (k v w' hS)
theorem gw_slice_hi {P : Program} {ops : Array Oper} {rest : List Oper} {o : Oper} {a : Act} {w : World} {Q : Exit → Act → World → Prop} (hw : Region.wanted o (yielded ops a.tmps) = true) (d : Option Tmp) (hd : o.dst = d) (ty : TypeId) (x l : Operand) (ho : o.op = .slice ty x (some l) none none) (vx vl v : Value) (hx : a.eval x = vx) (hl : a.eval l = vl)
    (hs : (Instr.sliceAt ty vx (some vl) none none).run P w = .ok v w) (k : wpList P ops Q rest (a.put d v) w) : wpList P ops Q (o :: rest) a w := by
  refine gw_val hw d hd v ?_ k
  unfold execOp
  simp only [ho, hx, hl, Option.map_some, Option.map_none, Sem.run_bind, hs]
  rfl
section
variable {P : Program} {Q : Exit → Act → World → Prop} {ops : Array Oper}

/-- Every operation waits for earlier ones alone. -/
def backB (ops : Array Oper) : Bool := (List.range ops.size).all fun i => ((ops[i]?).map fun o => o.after.all fun e => !Region.binds .any e || decide (e.on < i)).getD true
theorem ready_none {listed : Array Bool} (hb : backB ops = true) (hs : listed.size = ops.size) (h : Region.ready .any ops listed = []) : listed = Array.replicate ops.size true := by
  have key : ∀ i, i < ops.size → listed.getD i false = true := by
    intro i
    induction i using Nat.strongRecOn with
    | ind i ih =>
      intro hi
      by_cases hl : listed.getD i false = true
      · exact hl
      · exfalso
        have hlt : i < listed.size := by omega
        have hl2 : listed.getD i true = false := by
          simp only [Array.getD, hlt, dif_pos] at hl ⊢
          simpa using hl
        have hm : i ∈ Region.ready .any ops listed := by
          rw [mem_ready]
          refine ⟨hl2, ops[i], by simp [hi], fun e he hbe => ?_⟩
          have hbi := List.all_eq_true.1 hb i (List.mem_range.2 hi)
          rw [Array.getElem?_eq_getElem hi] at hbi
          have hlt2 : e.on < i := by
            have := (Array.all_eq_true_iff_forall_mem.1 hbi) e he
            rw [hbe] at this
            simpa using this
          exact ih e.on hlt2 (by omega)
        rw [h] at hm
        cases hm
  apply Array.ext
  · rw [hs]; simp
  · intro i h1 h2
    have := key i (by omega)
    simp only [Array.getD, h1, dif_pos] at this
    simpa using this
/-- THE REGION BY AN INVARIANT. -/
theorem wp_region_inv {id : Nat} {a : Act} {w : World} (J : Array Bool → Act → World → Prop) (hm : P.follows .mixedOrders = true) (hb : backB ops = true)
    (h0 : J (Array.replicate ops.size false) a { w with drawn := w.drawn + 1 })
    (hstep : ∀ i listed a w, i < ops.size → i ∈ Region.ready .any ops listed → J listed a w → wpOp P ops Q i (J (listed.setIfInBounds i true)) a w)
    (hend : ∀ a w, J (Array.replicate ops.size true) a w → Q .normal a w) : (Code.region id ops true).wp P Q a w := by
  refine wp_region_any hm ?_
  have key : ∀ (fuel : Nat) (listed : Array Bool) (a : Act) (w : World), listed.size = ops.size → listed.count false ≤ fuel → J listed a w → wpAny P .any ops Q fuel listed a w := by
    intro fuel
    induction fuel with
    | zero =>
      intro listed a w hs hc hJ
      have hall : listed = Array.replicate ops.size true := by
        apply Array.ext
        · rw [hs]; simp
        · intro i h1 h2
          have h3 : false ∉ listed := Array.count_eq_zero.1 (by omega)
          have h4 : listed[i] ≠ false := fun h => h3 (h ▸ Array.getElem_mem h1)
          simpa using h4
      have hr : Region.ready .any ops listed = [] := by
        rw [List.eq_nil_iff_forall_not_mem]
        intro j hj
        obtain ⟨h1, o, ho, -⟩ := mem_ready.1 hj
        have hjs : j < ops.size := (Array.getElem?_eq_some_iff.1 ho).1
        rw [hall] at h1
        simp [hjs] at h1
      exact ⟨hr, hend _ _ (hall ▸ hJ)⟩
    | succ fuel ih =>
      intro listed a w hs hc hJ
      refine ⟨fun h => hend _ _ ?_, fun i hi => ?_⟩
      · rw [← ready_none hb hs h]; exact hJ
      · obtain ⟨h1, o, ho, -⟩ := mem_ready.1 hi
        have his : i < ops.size := (Array.getElem?_eq_some_iff.1 ho).1
        refine wpOp_mono (fun a' w' hJ' => ih _ a' w' (by rw [Array.size_setIfInBounds]; exact hs) ?_ hJ') (hstep i listed a w his hi hJ)
        have hil : i < listed.size := by omega
        have hf : listed[i] = false := by
          simp only [Array.getD, hil, dif_pos] at h1
          exact h1
        rw [Array.setIfInBounds_def, dif_pos hil, Array.count_set, hf]
        have : 0 < listed.count false := Array.count_pos_iff.2 (hf ▸ Array.getElem_mem hil)
        simp
        omega
  refine key _ _ _ _ (by simp) ?_ h0
  rw [Array.count_replicate]
  simp
/-- What an operation that is ready waits for is done. -/
theorem ready_dep {i : Nat} {listed : Array Bool} (h : i ∈ Region.ready .any ops listed) (k : Nat) (hk : ((ops[i]?).map fun o => o.after.any fun e => Region.binds .any e && e.on == k).getD false = true) : listed.getD k false = true := by
  obtain ⟨-, o, ho, hall⟩ := mem_ready.1 h
  rw [ho] at hk
  simp only [Option.map_some, Option.getD_some] at hk
  obtain ⟨j, hj, hk⟩ := Array.any_eq_true.1 hk
  simp only [Bool.and_eq_true, beq_iff_eq] at hk
  rw [← hk.2]
  exact hall _ (Array.getElem_mem hj) hk.1
theorem ready_self {i : Nat} {listed : Array Bool} (h : i ∈ Region.ready .any ops listed) : listed.getD i true = false := (mem_ready.1 h).1

variable {i : Nat} {o : Oper} {a : Act} {w : World} {K : Act → World → Prop}
theorem st_of (hi : ops[i]? = some o) (hw : Region.wanted o (yielded ops a.tmps) = true) (h : Oper.wp P o a w K Q) : wpOp P ops Q i K a w := by
  unfold wpOp
  rw [hi]
  simp only
  rw [if_pos hw]
  exact .inl h
theorem st_not (hi : ops[i]? = some o) (hw : Region.wanted o (yielded ops a.tmps) = false) (h : K (a.put o.dst undef) w) : wpOp P ops Q i K a w := by
  unfold wpOp
  rw [hi]
  simp only
  rw [if_neg (by rw [hw]; decide)]
  exact h
theorem st_val (hi : ops[i]? = some o) (hw : Region.wanted o (yielded ops a.tmps) = true) (d : Option Tmp) (hd : o.dst = d) (v : Value) (w2 : World) (hr : (execOp a.eval o).run P w = .ok (.value v) w2) (h : K (a.put d v) w2) : wpOp P ops Q i K a w := by
  rw [← hd] at h
  refine st_of hi hw ?_
  rw [Oper.wp, hr, Oper.upon_value]
  exact h
theorem st_call (hi : ops[i]? = some o) (hw : Region.wanted o (yielded ops a.tmps) = true) (d : Option Tmp) (hd : o.dst = d) (f : FuncId) (args : Array Value) (hr : (execOp a.eval o).run P w = .ok (.enter f args) w)
    (hc : Calls P f args w fun e w' => ∃ v, e = .returned v ∧ K (a.put d v) w') : wpOp P ops Q i K a w := by
  rw [← hd] at hc
  refine st_of hi hw ?_
  rw [Oper.wp, hr]
  refine hc.mono ?_
  rintro e w' ⟨v, rfl, h⟩
  exact h
theorem st_load (hi : ops[i]? = some o) (hw : Region.wanted o (yielded ops a.tmps) = true) (d : Option Tmp) (hd : o.dst = d) (ty : TypeId) (x : Operand) (ho : o.op = .load ty x) (ad : Addr) (v : Value)
    (hx : a.eval x = .pointer (some ad)) (hl : (Instr.loadAt ty (.pointer (some ad))).run P w = .ok v w) (h : K (a.put d v) w) : wpOp P ops Q i K a w := by
  refine st_val hi hw d hd v w ?_ h
  unfold execOp
  simp only [ho, hx, Sem.run_bind, hl]
  rfl
theorem st_slice_to (hi : ops[i]? = some o) (hw : Region.wanted o (yielded ops a.tmps) = true) (d : Option Tmp) (hd : o.dst = d) (ty : TypeId) (x y : Operand) (ho : o.op = .slice ty x none (some y) none) (vx vh v : Value) (hx : a.eval x = vx) (hh : a.eval y = vh)
    (hs : (Instr.sliceAt ty vx none (some vh) none).run P w = .ok v w) (h : K (a.put d v) w) : wpOp P ops Q i K a w := by
  refine st_val hi hw d hd v w ?_ h
  unfold execOp
  simp only [ho, hx, hh, Option.map_some, Option.map_none, Sem.run_bind, hs]
  rfl
theorem st_slice_from (hi : ops[i]? = some o) (hw : Region.wanted o (yielded ops a.tmps) = true) (d : Option Tmp) (hd : o.dst = d) (ty : TypeId) (x y : Operand) (ho : o.op = .slice ty x (some y) none none) (vx vh v : Value) (hx : a.eval x = vx) (hh : a.eval y = vh)
    (hs : (Instr.sliceAt ty vx (some vh) none none).run P w = .ok v w) (h : K (a.put d v) w) : wpOp P ops Q i K a w := by
  refine st_val hi hw d hd v w ?_ h
  unfold execOp
  simp only [ho, hx, hh, Option.map_some, Option.map_none, Sem.run_bind, hs]
  rfl
theorem st_slice_all (hi : ops[i]? = some o) (hw : Region.wanted o (yielded ops a.tmps) = true) (d : Option Tmp) (hd : o.dst = d) (ty : TypeId) (x : Operand) (ho : o.op = .slice ty x none none none) (vx v : Value) (hx : a.eval x = vx)
    (hs : (Instr.sliceAt ty vx none none none).run P w = .ok v w) (h : K (a.put d v) w) : wpOp P ops Q i K a w := by
  refine st_val hi hw d hd v w ?_ h
  unfold execOp
  simp only [ho, hx, Option.map_none, Sem.run_bind, hs]
  rfl
theorem st_build (hi : ops[i]? = some o) (hw : Region.wanted o (yielded ops a.tmps) = true) (d : Option Tmp) (hd : o.dst = d) (t : TypeId) (len : Nat) (parts : Array (Nat × Operand)) (ho : o.op = .buildSlice t len parts)
    (vs : Array (Nat × Value)) (hp : (parts.map fun (i, x) => (i, a.eval x)) = vs) (v : Value) (w2 : World) (hr : (Instr.buildSlice t len vs).run P w = .ok v w2) (h : K (a.put d v) w2) : wpOp P ops Q i K a w := by
  refine st_val hi hw d hd v w2 ?_ h
  unfold execOp
  simp only [ho, Sem.run_bind, hp, hr, Result.andThen_ok]
  rfl
theorem st_append (hi : ops[i]? = some o) (hw : Region.wanted o (yielded ops a.tmps) = true) (d : Option Tmp) (hd : o.dst = d) (ty : TypeId) (hty : o.type = ty) (s x : Operand) (t : TypeId)
    (ho : o.op = .call { callee := .builtin .append, args := #[s, x], argTypes := #[t, t] }) (v u v' : Value) (w' : World) (hs : a.eval s = v) (hx : a.eval x = u)
    (hr : (Builtin.append_ #[t, t] ty #[v, u]).run P w = .ok v' w') (h : K (a.put d v') w') : wpOp P ops Q i K a w := by
  subst hd
  subst hty
  refine st_of hi hw ?_
  unfold Oper.wp execOp
  simp only [ho, resolve, invoke, builtin, Sem.run_bind, Sem.run_pure, Result.andThen_ok, List.map_toArray, List.map_cons, List.map_nil, hs, hx, hr]
  exact h
/-- A whole array is stored. -/
theorem st_store (hi : ops[i]? = some o) (hw : Region.wanted o (yielded ops a.tmps) = true) (hd : o.dst = none) (ty : TypeId) (x y : Operand) (ho : o.op = .store ty x y)
    (g : Nat) (c c' : Array Value) (hx : a.eval x = .pointer (some ⟨g, 0, none⟩)) (hy : a.eval y = .agg c') (hg : w.heap[g]? = some (.cells c ty (0, 0)))
    (hin : (P.info? ty).map (·.size) = some c'.size) (hz : c.size = c'.size) (h1 : c'.all (·.oneCell') = true)
    (h : K a (w.setRow g c')) : wpOp P ops Q i K a w := by
  refine st_of hi hw ?_
  unfold Oper.wp execOp
  simp only [ho, hx, hy, Instr.storeAt, Instr.sureAddr, Sem.run_bind, Sem.run_pure, Result.andThen_ok, run_storeVar_row w g ty ty c c' hg hin hz h1]
  show K (a.put o.dst undef) _
  rw [hd]
  exact h
end
/-! Runs of operations that the kernel reckons by itself, and short forms. -/
theorem pu : (∀ (a : Act) (t : Tmp) (v : Value), a.put (some t) v = { a with tmps := a.tmps.setIfInBounds t v }) ∧ (∀ (l : List Value) (i : Nat) (x : Value), l.toArray.setIfInBounds i x = (l.set i x).toArray) ∧ (∀ (x : Value) (l : List Value) (n : Nat) (v : Value), (x :: l).set (n + 1) v = x :: l.set n v) ∧ (∀ (x : Value) (l : List Value) (v : Value), (x :: l).set 0 v = v :: l) :=
  ⟨fun _ _ _ => rfl, fun _ _ _ => List.setIfInBounds_toArray .., fun _ _ _ _ => rfl, fun _ _ _ => rfl⟩
section
variable {P : Program} {ops : Array Oper} {rest : List Oper} {o o1 o2 o3 o4 o5 o6 o7 o8 : Oper} {a : Act} {w : World} {Q : Exit → Act → World → Prop}
def runG (P : Program) (ops : Array Oper) : List Oper → Act → World → Option (Act × World)
  | [], a, w => some (a, w)
  | o :: l, a, w => bif Region.wanted o (yielded ops a.tmps) then
      match (execOp a.eval o).run P w with
      | .ok (.value v) w' => runG P ops l (a.put o.dst v) w'
      | _ => none
    else runG P ops l (a.put o.dst undef) w
theorem runG_ok : ∀ (l : List Oper) (a : Act) (w : World) (a' : Act) (w' : World), runG P ops l a w = some (a', w') → wpList P ops Q rest a' w' → wpList P ops Q (l ++ rest) a w
  | [], a, w, a', w', h, k => by
    simp only [runG, Option.some.injEq, Prod.mk.injEq] at h
    obtain ⟨rfl, rfl⟩ := h
    exact k
  | o :: l, a, w, a', w', h, k => by
    unfold runG at h
    cases hw : Region.wanted o (yielded ops a.tmps) with
    | true =>
      rw [hw, cond_true] at h
      split at h
      · rename_i v w2 hr
        exact gw_new hw o.dst rfl v w2 hr (runG_ok l _ _ a' w' h k)
      · exact absurd h (by simp)
    | false =>
      rw [hw, cond_false] at h
      exact gw_not hw o.dst rfl (runG_ok l _ _ a' w' h k)
theorem gz1 {d1 : Option Tmp} (v1 : Value) (k : wpList P ops Q rest (a.put d1 v1) w) (e1 : o1.dst = d1 := by rfl) (h : runG P ops [o1] a w = some ((a.put d1 v1), w) := by kernel_rfl) : wpList P ops Q (o1 :: rest) a w := by
  subst e1
  exact runG_ok [o1] a w _ _ h k
theorem gz2 {d1 d2 : Option Tmp} (v1 v2 : Value) (k : wpList P ops Q rest ((a.put d1 v1).put d2 v2) w) (e1 : o1.dst = d1 := by rfl) (e2 : o2.dst = d2 := by rfl) (h : runG P ops [o1, o2] a w = some (((a.put d1 v1).put d2 v2), w) := by kernel_rfl) : wpList P ops Q (o1 :: o2 :: rest) a w := by
  subst e1 e2
  exact runG_ok [o1, o2] a w _ _ h k
theorem gz3 {d1 d2 d3 : Option Tmp} (v1 v2 v3 : Value) (k : wpList P ops Q rest (((a.put d1 v1).put d2 v2).put d3 v3) w) (e1 : o1.dst = d1 := by rfl) (e2 : o2.dst = d2 := by rfl) (e3 : o3.dst = d3 := by rfl) (h : runG P ops [o1, o2, o3] a w = some ((((a.put d1 v1).put d2 v2).put d3 v3), w) := by kernel_rfl) : wpList P ops Q (o1 :: o2 :: o3 :: rest) a w := by
  subst e1 e2 e3
  exact runG_ok [o1, o2, o3] a w _ _ h k
theorem gz4 {d1 d2 d3 d4 : Option Tmp} (v1 v2 v3 v4 : Value) (k : wpList P ops Q rest ((((a.put d1 v1).put d2 v2).put d3 v3).put d4 v4) w) (e1 : o1.dst = d1 := by rfl) (e2 : o2.dst = d2 := by rfl) (e3 : o3.dst = d3 := by rfl) (e4 : o4.dst = d4 := by rfl) (h : runG P ops [o1, o2, o3, o4] a w = some (((((a.put d1 v1).put d2 v2).put d3 v3).put d4 v4), w) := by kernel_rfl) : wpList P ops Q (o1 :: o2 :: o3 :: o4 :: rest) a w := by
  subst e1 e2 e3 e4
  exact runG_ok [o1, o2, o3, o4] a w _ _ h k
theorem gz5 {d1 d2 d3 d4 d5 : Option Tmp} (v1 v2 v3 v4 v5 : Value) (k : wpList P ops Q rest (((((a.put d1 v1).put d2 v2).put d3 v3).put d4 v4).put d5 v5) w) (e1 : o1.dst = d1 := by rfl) (e2 : o2.dst = d2 := by rfl) (e3 : o3.dst = d3 := by rfl) (e4 : o4.dst = d4 := by rfl) (e5 : o5.dst = d5 := by rfl) (h : runG P ops [o1, o2, o3, o4, o5] a w = some ((((((a.put d1 v1).put d2 v2).put d3 v3).put d4 v4).put d5 v5), w) := by kernel_rfl) : wpList P ops Q (o1 :: o2 :: o3 :: o4 :: o5 :: rest) a w := by
  subst e1 e2 e3 e4 e5
  exact runG_ok [o1, o2, o3, o4, o5] a w _ _ h k
theorem gz6 {d1 d2 d3 d4 d5 d6 : Option Tmp} (v1 v2 v3 v4 v5 v6 : Value) (k : wpList P ops Q rest ((((((a.put d1 v1).put d2 v2).put d3 v3).put d4 v4).put d5 v5).put d6 v6) w) (e1 : o1.dst = d1 := by rfl) (e2 : o2.dst = d2 := by rfl) (e3 : o3.dst = d3 := by rfl) (e4 : o4.dst = d4 := by rfl) (e5 : o5.dst = d5 := by rfl) (e6 : o6.dst = d6 := by rfl) (h : runG P ops [o1, o2, o3, o4, o5, o6] a w = some (((((((a.put d1 v1).put d2 v2).put d3 v3).put d4 v4).put d5 v5).put d6 v6), w) := by kernel_rfl) : wpList P ops Q (o1 :: o2 :: o3 :: o4 :: o5 :: o6 :: rest) a w := by
  subst e1 e2 e3 e4 e5 e6
  exact runG_ok [o1, o2, o3, o4, o5, o6] a w _ _ h k
/-- One operation with its value, an operation that makes memory, a load, a store, a call. -/
theorem gzv {d : Option Tmp} (v : Value) (hr : (execOp a.eval o).run P w = .ok (.value v) w) (k : wpList P ops Q rest (a.put d v) w) (hd : o.dst = d := by rfl) (hw : Region.wanted o (yielded ops a.tmps) = true := by kernel_rfl) : wpList P ops Q (o :: rest) a w := gw_val hw d hd v hr k
theorem gzl {d : Option Tmp} {ty : TypeId} {x : Operand} (ho : o.op = .load ty x) (ad : Addr) (v : Value) (hl : (Instr.loadAt ty (.pointer (some ad))).run P w = .ok v w) (k : wpList P ops Q rest (a.put d v) w) (hd : o.dst = d := by rfl) (hw : Region.wanted o (yielded ops a.tmps) = true := by kernel_rfl) (hx : a.eval x = .pointer (some ad) := by kernel_rfl) : wpList P ops Q (o :: rest) a w := gw_load hw d hd ty x ho ad v hx hl k
theorem gzc {d : Option Tmp} (v : Value) (S : World → Prop) {f : FuncId} {args : Array Value} (hc : Calls P f args w fun e w' => e = .returned v ∧ S w') (k : ∀ w', S w' → wpList P ops Q rest (a.put d v) w') (hd : o.dst = d := by rfl) (hw : Region.wanted o (yielded ops a.tmps) = true := by kernel_rfl) (hr : (execOp a.eval o).run P w = .ok (.enter f args) w := by kernel_rfl) : wpList P ops Q (o :: rest) a w := gw_call hw d hd f args v S hr hc k
theorem gze {d : Option Tmp} (S : Value → World → Prop) {f : FuncId} {args : Array Value} (hc : Calls P f args w fun e w' => ∃ v, e = .returned v ∧ S v w') (k : ∀ v w', S v w' → wpList P ops Q rest (a.put d v) w') (hd : o.dst = d := by rfl) (hw : Region.wanted o (yielded ops a.tmps) = true := by kernel_rfl) (hr : (execOp a.eval o).run P w = .ok (.enter f args) w := by kernel_rfl) : wpList P ops Q (o :: rest) a w := gw_callE hw d hd f args S hr hc k
/-- An operation with two operands: the law wants them, the kernel finds them. -/
theorem gzw {d : Option Tmp} {x y : Operand} {X Y : Value} (v : Value) (hr : a.eval x = X → a.eval y = Y → ∀ w, (execOp a.eval o).run P w = .ok (.value v) w) (k : wpList P ops Q rest (a.put d v) w) (hd : o.dst = d := by rfl) (hw : Region.wanted o (yielded ops a.tmps) = true := by kernel_rfl) (hx : a.eval x = X := by kernel_rfl) (hy : a.eval y = Y := by kernel_rfl) : wpList P ops Q (o :: rest) a w := gw_val hw d hd v (hr hx hy w) k
theorem gzb {d : Option Tmp} {x y : Operand} {X Y v : Value} (hr : a.eval x = X → a.eval y = Y → ∀ w, (execOp a.eval o).run P w = .ok (.value v) w) (k : wpList P ops Q rest (a.put d v) w) (hd : o.dst = d := by rfl) (hw : Region.wanted o (yielded ops a.tmps) = true := by kernel_rfl) (hx : a.eval x = X := by kernel_rfl) (hy : a.eval y = Y := by kernel_rfl) : wpList P ops Q (o :: rest) a w := gw_val hw d hd v (hr hx hy w) k
theorem dT {p : Prop} [Decidable p] (h : p := by omega) : decide p = true := decide_eq_true h
theorem dF {p : Prop} [Decidable p] (h : ¬p := by omega) : decide p = false := decide_eq_false h
theorem wl {id : Nat} {l : List Oper} (h : wpList P l.toArray Q l a w) : (Code.region id l.toArray false).wp P Q a w := wp_region_lit h
theorem wn (h : Q .normal a w) : wpList P ops Q [] a w := wpList_nil h
end
section
variable {P : Program} {C : World → Prop} {ops : Array Oper} {Q : Act → Prop} {a : Act} {o : Oper} {rest : List Oper}
/-- Short forms in a region that draws its order. -/
theorem gy {d : Option Tmp} (v : Value) (k : wpQuiet P ops C Q rest (a.put d v)) (hd : o.dst = d := by rfl) (hw : Region.wanted o (yielded ops a.tmps) = true := by kernel_rfl) (hr : ∀ w, (execOp a.eval o).run P w = .ok (.value v) w := by intro w; kernel_rfl) : wpQuiet P ops C Q (o :: rest) a := gq_val hw d hd v (fun w _ => hr w) k
theorem gyn {d : Option Tmp} (k : wpQuiet P ops C Q rest (a.put d undef)) (hd : o.dst = d := by rfl) (hw : Region.wanted o (yielded ops a.tmps) = false := by kernel_rfl) : wpQuiet P ops C Q (o :: rest) a := gq_not hw d hd k
theorem gyv {d : Option Tmp} (v : Value) (hr : ∀ w, C w → (execOp a.eval o).run P w = .ok (.value v) w) (k : wpQuiet P ops C Q rest (a.put d v)) (hd : o.dst = d := by rfl) (hw : Region.wanted o (yielded ops a.tmps) = true := by kernel_rfl) : wpQuiet P ops C Q (o :: rest) a := gq_val hw d hd v hr k
theorem gyl {d : Option Tmp} {ty : TypeId} {x : Operand} (ho : o.op = .load ty x) (ad : Addr) (v : Value) (hl : ∀ w, C w → (Instr.loadAt ty (.pointer (some ad))).run P w = .ok v w) (k : wpQuiet P ops C Q rest (a.put d v)) (hd : o.dst = d := by rfl) (hw : Region.wanted o (yielded ops a.tmps) = true := by kernel_rfl) (hx : a.eval x = .pointer (some ad) := by kernel_rfl) : wpQuiet P ops C Q (o :: rest) a := gq_load hw d hd ty x ho ad v hx hl k
end
end Go.Proofs.YtglglhcnofbagaaGreat
namespace Go.Proofs.YtglglhcnofbagaaGreat
open Go.RowKit

def nums (s : ByteArray) : List Int := s.data.toList.map fun x => (x.toNat : Int)
theorem nums_len (s : ByteArray) : (nums s).length = s.size := by
 unfold nums
 rw [List.length_map, Array.length_toList]
 rfl
theorem nums_at (s : ByteArray) (i : Nat) (h : i < s.size) : (nums s).getD i 0 = ((s[i]'h).toNat : Int) := by
 have h2 : i < s.data.toList.length := by rw [Array.length_toList]; exact h
 unfold nums
 rw [getD_lt _ i 0 (by simpa using h2), List.getElem_map]
 rfl
theorem nums_byte (s : ByteArray) : ∀ x, x ∈ nums s → W8 x := by
 intro x hx
 obtain ⟨b, -, rfl⟩ := List.mem_map.1 hx
 have := b.toNat_lt
 exact ⟨by omega, by omega⟩
theorem nums_str (L : List Int) (h : ∀ x, x ∈ L → W8 x) : nums (strOfNums L) = L := by
 unfold nums
 rw [strOfNums_data, List.map_map]
 conv => rhs; rw [← List.map_id L]
 apply List.map_congr_left
 intro x hx
 obtain ⟨h0, h1⟩ := h x hx
 simp
 omega
theorem str_nums (s : ByteArray) : strOfNums (nums s) = s := by
 apply ByteArray.ext
 apply Array.toList_inj.1
 rw [strOfNums_data, nums, List.map_map]
 conv => rhs; rw [← List.map_id s.data.toList]
 apply List.map_congr_left
 intro x _
 simp
theorem str_index (s : ByteArray) (i : Nat) (h : i < s.size) (w : World) : (Instr.index 9 (.string s) (.int .i64 (i : Int))).run Tryz.prog w = .ok (.int .u8 ((nums s).getD i 0)) w := by
 have hc : 0 ≤ (i : Int) ∧ (i : Int) < s.size := by omega
 rw [run_index_string _ _ _ _ _ Tryz.underlying9, dif_pos hc, nums_at s i h]
 rfl
end Go.Proofs.YtglglhcnofbagaaGreat
