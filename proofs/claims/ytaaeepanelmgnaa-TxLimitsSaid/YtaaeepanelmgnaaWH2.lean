/-
  The contract of wire.Fields: what flds says of the bytes.
  Conditions: as typed.
-/
import Derived.Test.YtaaeepanelmgnaaWH1
namespace Go.Proofs.Ytaaeepanelmgnaa
set_option maxRecDepth 100000
open Go.RowKit

theorem fldsR_err {w w' : World} {Res : List Fld × Int × Int} {i e0 : Int} {j : Int} (h : Res = ([], i, e0)) (hj : j = i) (hb : Below w.heap.size w w') : FldsR w Res (.returned (.tuple #[.slice none 0 0, .int .i64 j, .int .i64 e0])) w' := by
  subst h hj
  exact ⟨_, [], rfl, rfl, RowB.nil _ _, hb⟩
theorem fldsR_ok {w w' : World} {Res : List Fld × Int × Int} {v : Value} {ps : List (Fld × Value)} (h : Res = (ps.map Prod.fst, 0, 0)) (hr : RowB w' w.heap.size v ps) (hb : Below w.heap.size w w') : FldsR w Res (.returned (.tuple #[v, .int .i64 0, .int .i64 0])) w' := by
  subst h
  exact ⟨_, ps, rfl, rfl, hr, hb⟩

set_option maxHeartbeats 2000000 in
set_option maxRecDepth 100000 in
theorem code_fields (a : Option Addr) (c : Nat) (L : List Int) (w : World) (hL : L.length ≤ 1000000) (hr : Sl w a c L) (hw : ∀ x, x ∈ L → W8 x) (hc : L.length ≤ c) :
    Calls Try.prog 51 #[.slice a L.length c] w (FldsR w (flds L)) := by
  obtain ⟨i0, hi, hz0, hz1, hz2⟩ := info_parts info25
  have HI := Lib.hid hi
  have HZ0 := Lib.hid hz0
  have HZ1 := Lib.hid hz1
  have HZ2 := Lib.hid hz2
  have HD : Hid (flds L = fldsG (L.length + 1) [] 0 L) := rfl
  have HR := Lib.hid hr
  have HW := Lib.hid hw
  generalize flds L = Res at *
  clear hi hz0 hz1 hz2 hr hw
  go_enter Try.func51, Try.ntmps51
  go_wp2_with fail
  go_loopg [2, 5] L.length (fun g s2 s5 wx => ∃ (i f m : Nat) (ra : Option Addr) (R : List Int) (ps : List (Fld × Value)), s5 = .slice ra R.length m ∧ R.length ≤ m ∧ i + R.length ≤ L.length ∧ L.length ≤ i + R.length ∧ R.length < f ∧ ps.length ≤ 1024 ∧ Hid (Sl w ra m R) ∧ Hid (∀ x, x ∈ R → W8 x) ∧
    Hid (Res = fldsG f (ps.map Prod.fst) i R) ∧ Hid (RowB wx w.heap.size s2 ps) ∧ Below w.heap.size w wx ∧ R.length = g)
  case atStart => exact ⟨0, L.length + 1, c, a, L, [], rfl, hc, by omega, by omega, by omega, by simp, HR, HW, HD, RowB.nil _ _, Below.refl _ _, rfl⟩
  case round =>
    obtain ⟨i, f, m, ra, R, ps, rfl, hRm, hi1, hi2, hf, hps, hsl, hRw, hd, hrow, hb, rfl⟩ := hrel
    have hsz := hb.size
    obtain ⟨va, vc, rfl, hvc⟩ := hrow.out.form
    obtain ⟨f', rfl⟩ : ∃ f', f = f' + 1 := ⟨f - 1, by omega⟩
    by_cases h0 : R.length = 0
    · have hfin : Res = (ps.map Prod.fst, 0, 0) := by rw [hd.out, flds_end h0]
      have hlt : ¬ 0 < R.length := by omega
      have HFIN := Lib.hid hfin
      clear hd h0 hfin
      go_wp2
      go_ret3
      exact fldsR_ok HFIN.out hrow.out hb
    · have hpos : 0 < R.length := by omega
      by_cases h1 : ps.length = 1024
      · have hfin : Res = ([], (i : Int), 3) := by rw [hd.out, flds_limit h0 (by simp; omega)]
        have hq : ((ps.length : Int) == 1024) = true := by rw [h1]; rfl
        have HFIN := Lib.hid hfin
        clear hd h0 hfin h1
        go_wp2
        go_ret3
        exact fldsR_err HFIN.out (by omega) hb
      · have hq : ((ps.length : Int) == 1024) = false := by rw [beq_eq_false_iff_ne]; omega
        have cF := fun wx hs => code_first ra m R wx (by omega) hs hRw.out hRm
        rcases one_inv R hRw.out (by omega) with ⟨e0, ho, he⟩ | ⟨x, hx, ho, hle, -⟩
        · have hfin : Res = ([], (i : Int), e0) := by rw [hd.out, flds_err h0 (by simp; omega) ho he]
          rw [ho] at cF
          have h3 : (e0 != 0) = true := by simpa using he
          have h4 : (e0 == 0) = false := by simpa using he
          have HFIN := Lib.hid hfin
          clear hd h0 h1 ho he hfin
          go_wp2_with fail
          refine (cF _ (sl_below hsl.out hb)).mono ?_
          rintro e w2 ⟨v2, rfl, ho2, hb2⟩
          have hb3 := bnext hb hb2
          obtain ⟨a2, c2, rfl, -, -⟩ := ho2.sl
          clear cF hb2 ho2
          go_wp2
          go_ret3
          exact fldsR_err HFIN.out (by omega) (hb3.alloc hb3.size _)
        · have hd2 : Res = fldsG f' ((ps ++ [(x, Value.slice none 0 0)]).map Prod.fst) (i + (encF x).length) (R.drop (encF x).length) := by
            rw [hd.out, flds_next h0 (by simp; omega) ho]
            simp
          rw [ho] at cF
          have hps2 : ps.length + 1 ≤ 1024 := by omega
          have hs2 := encF_pos x
          have hlB := hx.2.2.2
          have hsl2 := fun wx => slice_from .i64 ra R.length m (encF x).length wx hle
          have HS2 := Lib.hid (sl_from hsl.out (encF x).length hRm)
          have HW2 := Lib.hid (drop_bytes hRw.out (encF x).length)
          have hlen : (R.drop (encF x).length).length = R.length - (encF x).length := List.length_drop
          generalize R.drop (encF x).length = R2 at *
          generalize (encF x).length = sz at *
          have HLEN := Lib.hid hlen
          have HD2 := Lib.hid hd2
          clear hd h0 h1 ho hd2 hlen
          go_wp2_with fail
          refine (cF _ (sl_below hsl.out hb)).mono ?_
          rintro e w2 ⟨v2, rfl, ho2, hb2⟩
          have hb3 := bnext hb hb2
          have hrow2 := hrow.out.below hb2
          obtain ⟨a2, c2, rfl, -, -⟩ := ho2.sl
          have HO2 := Lib.hid (ho2.base hsz)
          have HR2 := Lib.hid hrow2
          clear cF hb2 ho2 hrow hrow2
          go_wp2_with (at_builtin; refine wpList_append_own _ rfl _ _ 50 rfl w.heap.size 54 i0 (.agg #[.int .i64 0, .int .i64 0, .int .u64 0, .slice none 0 0]) 4 48 Try.underlying50 HI.out HZ0.out HZ1.out HZ2.out rfl (by decide) (.slice va ps.length vc) ps.length (row4 ps) rfl ((HR2.out.1.alloc _).alloc _) ⟨w2.heap.size + 1, 0, none⟩ 1 1 (cellsOf (x, .slice a2 x.bytes.length c2)) rfl rfl (cells_of_new _ (x, .slice a2 x.bytes.length c2) _ (by simp)) (cells_one (p := (x, .slice a2 x.bytes.length c2)) HO2.out) ?c1 ?c2 ?c3 ?_)
          case c1 => unfold maxLen; omega
          case c2 => omega
          case c3 => have := hb3.size; simp; omega
          intro v3 w3 hown3 hgrow3 _
          have HR3 := Lib.hid (RowB.step (p := (x, Value.slice a2 x.bytes.length c2)) (HR2.out.below ((Below.refl _ _).alloc (Nat.le_refl _) _)) (HO2.out.below ((Below.refl _ _).alloc (Nat.le_refl _) _)) hown3 hgrow3)
          have hb4 : Below w.heap.size w w3 := ((hb3.alloc hb3.size _).alloc (by have := hb3.size; simp; omega) _).grown hgrow3 (by have := hb3.size; simp; omega) (fun j hj => (HR2.out.1.lt j hj).1)
          clear hown3 hgrow3 HR2 HO2
          have HD3 : Hid (Res = fldsG f' ((ps ++ [(x, Value.slice a2 x.bytes.length c2)]).map Prod.fst) (i + sz) R2) := Lib.hid (HD2.out.trans (by simp))
          have h5 := HLEN.out
          have h6 : R2.length ≤ m - sz := by omega
          have h7 : i + sz + R2.length ≤ L.length := by omega
          have h8 : L.length ≤ i + sz + R2.length := by omega
          have h9 : R2.length < f' := by omega
          have h10 : R2.length < R.length := by omega
          have h11 : (ps ++ [(x, Value.slice a2 x.bytes.length c2)]).length ≤ 1024 := by rw [List.length_append, List.length_singleton]; omega
          clear h5 HD2
          go_wp2_with fail
          go_roundg R2.length
          case measure => exact h10
          case rel => exact ⟨i + sz, f', m - sz, fromA ra m sz, R2, _, by rw [HLEN.out], h6, h7, h8, h9, h11, HS2, HW2, HD3, HR3, hb4, rfl⟩
end Go.Proofs.Ytaaeepanelmgnaa
