/-
  The contract of the reference's reading of a message: what flds says of the bytes.
  Conditions: as typed.
-/
import Derived.Test.YtaaeepanelmgnaaWH2
import Derived.Test.YtaaeepanelmgnaaWG7
namespace Go.Proofs.Ytaaeepanelmgnaa
set_option maxRecDepth 100000
open Go.RowKit

set_option maxHeartbeats 2000000 in
set_option maxRecDepth 100000 in
theorem ref_fields (a : Option Addr) (c : Nat) (L : List Int) (w : World) (hL : L.length ≤ 1000000) (hr : Sl w a c L) (hw : ∀ x, x ∈ L → W8 x) (hc : L.length ≤ c) :
    Calls Try.prog 26 #[.slice a L.length c] w (FldsR w (flds L)) := by
  obtain ⟨i0, hi, hz0, hz1, hz2⟩ := info_parts info25
  have HI := Lib.hid hi
  have HZ0 := Lib.hid hz0
  have HZ1 := Lib.hid hz1
  have HZ2 := Lib.hid hz2
  have HD : Hid (flds L = fldsG (L.length + 1) [] 0 (L.drop 0)) := rfl
  have HR := Lib.hid hr
  have HW := Lib.hid hw
  generalize flds L = Res at *
  clear hi hz0 hz1 hz2 hr hw
  go_enter Try.func26, Try.ntmps26
  go_wp2_with fail
  go_loopg [5, 6] L.length (fun g s2 s6 wx => ∃ (i f : Nat) (ps : List (Fld × Value)), s6 = .int .i64 (i : Int) ∧ i ≤ L.length ∧ L.length - i < f ∧ ps.length ≤ 1024 ∧
    Hid (Res = fldsG f (ps.map Prod.fst) i (L.drop i)) ∧ Hid (RowB wx w.heap.size s2 ps) ∧ Below w.heap.size w wx ∧ L.length - i = g)
  case atStart => exact ⟨0, L.length + 1, [], rfl, by omega, by omega, by simp, HD, RowB.nil _ _, Below.refl _ _, rfl⟩
  case round =>
    obtain ⟨i, f, ps, rfl, hi, hf, hps, hd, hrow, hb, rfl⟩ := hrel
    have hsz := hb.size
    obtain ⟨va, vc, rfl, hvc⟩ := hrow.out.form
    obtain ⟨f', rfl⟩ : ∃ f', f = f' + 1 := ⟨f - 1, by omega⟩
    have hlR : (L.drop i).length = L.length - i := List.length_drop
    by_cases h0 : L.length - i = 0
    · have hfin : Res = (ps.map Prod.fst, 0, 0) := by rw [hd.out, flds_end (by omega)]
      have hlt : ¬ i < L.length := by omega
      have HFIN := Lib.hid hfin
      clear hd h0 hfin hlR
      go_wp2
      go_ret3
      exact fldsR_ok HFIN.out hrow.out hb
    · have hpos : i < L.length := by omega
      by_cases h1 : ps.length = 1024
      · have hfin : Res = ([], (i : Int), 3) := by rw [hd.out, flds_limit (by omega) (by simp; omega)]
        have hq : (1024 : Int) ≤ (ps.length : Int) := by omega
        have HFIN := Lib.hid hfin
        clear hd h0 hfin h1 hlR
        go_wp2
        go_ret3
        exact fldsR_err HFIN.out rfl hb
      · have hq : ¬ (1024 : Int) ≤ (ps.length : Int) := by omega
        have hps2 : ps.length + 1 ≤ 1024 := by omega
        have HSR := Lib.hid (sl_from HR.out i hc)
        have hRw := Lib.hid (drop_bytes HW.out i)
        have cF : ∀ wx, Sl wx (fromA a c i) (c - i) (L.drop i) → Calls Try.prog 40 #[.slice (fromA a c i) (L.length - i) (c - i)] wx (OneR wx (onef (L.drop i))) := fun wx hs => by
          have := ref_one (fromA a c i) (c - i) (L.drop i) wx (by omega) hs hRw.out (by omega)
          rw [hlR] at this
          exact this
        have hsl := fun wx => slice_from .i64 a L.length c i wx hi
        rcases one_inv (L.drop i) hRw.out (by omega) with ⟨e0, ho, he⟩ | ⟨x, hx, ho, hle, -⟩
        · have hfin : Res = ([], (i : Int), e0) := by rw [hd.out, flds_err (by omega) (by simp; omega) ho he]
          rw [ho] at cF
          have h3 : (e0 != 0) = true := by simpa using he
          have h4 : (e0 == 0) = false := by simpa using he
          have HFIN := Lib.hid hfin
          clear hd h0 h1 ho he hfin hlR
          go_wp2_with fail
          refine (cF _ (sl_below HSR.out hb)).mono ?_
          rintro e w2 ⟨v2, rfl, ho2, hb2⟩
          have hb3 := bnext hb hb2
          obtain ⟨a2, c2, rfl, -, -⟩ := ho2.sl
          clear cF hb2 ho2
          go_wp2
          go_ret3
          exact fldsR_err HFIN.out rfl (hb3.alloc hb3.size _)
        · have hd2 : Res = fldsG f' ((ps ++ [(x, Value.slice none 0 0)]).map Prod.fst) (i + (encF x).length) (L.drop (i + (encF x).length)) := by
            rw [hd.out, flds_next (by omega) (by simp; omega) ho, List.drop_drop]
            simp
          rw [ho] at cF
          have hs2 := encF_pos x
          have hlB := hx.2.2.2
          rw [hlR] at hle
          generalize (encF x).length = sz at *
          have HD2 := Lib.hid hd2
          clear hd h0 h1 ho hd2 hlR
          go_wp2_with fail
          refine (cF _ (sl_below HSR.out hb)).mono ?_
          rintro e w2 ⟨v2, rfl, ho2, hb2⟩
          have hb3 := bnext hb hb2
          have hrow2 := hrow.out.below hb2
          obtain ⟨a2, c2, rfl, -, -⟩ := ho2.sl
          have HO2 := Lib.hid (ho2.base hsz)
          have HR2 := Lib.hid hrow2
          clear cF hb2 ho2 hrow hrow2
          go_wp2_with (at_builtin; refine wpList_append_own _ rfl _ _ 50 rfl w.heap.size 54 i0 (.agg #[.int .i64 0, .int .i64 0, .int .u64 0, .slice none 0 0]) 4 48 Try.underlying50 HI.out HZ0.out HZ1.out HZ2.out rfl (by decide) (.slice va ps.length vc) ps.length (row4 ps) rfl ((HR2.out.1.alloc _).alloc _) ⟨w2.heap.size + 1, 0, none⟩ 1 1 (cellsOf (x, .slice a2 x.bytes.length c2)) rfl rfl (cells_of_new _ (x, .slice a2 x.bytes.length c2) _ (by simp)) (cells_one (p := (x, .slice a2 x.bytes.length c2)) HO2.out) ?c1 ?c2 ?c3 ?_)
          case c1 => unfold maxLen; omega
          case c2 => omega
          case c3 => have := hb3.size; simp; omega
          intro v3 w3 hown3 hgrow3 _
          have HR3 := Lib.hid (RowB.step (p := (x, Value.slice a2 x.bytes.length c2)) (HR2.out.below ((Below.refl _ _).alloc (Nat.le_refl _) _)) (HO2.out.below ((Below.refl _ _).alloc (Nat.le_refl _) _)) hown3 hgrow3)
          have hb4 : Below w.heap.size w w3 := ((hb3.alloc hb3.size _).alloc (by have := hb3.size; simp; omega) _).grown hgrow3 (by have := hb3.size; simp; omega) (fun j hj => (HR2.out.1.lt j hj).1)
          clear hown3 hgrow3 HR2 HO2
          have HD3 : Hid (Res = fldsG f' ((ps ++ [(x, Value.slice a2 x.bytes.length c2)]).map Prod.fst) (i + sz) (L.drop (i + sz))) := Lib.hid (HD2.out.trans (by simp))
          have h7 : i + sz ≤ L.length := by omega
          have h9 : L.length - (i + sz) < f' := by omega
          have h10 : L.length - (i + sz) < L.length - i := by omega
          have h11 : (ps ++ [(x, Value.slice a2 x.bytes.length c2)]).length ≤ 1024 := by rw [List.length_append, List.length_singleton]; omega
          clear HD2
          go_wp2_with fail
          go_roundg (L.length - (i + sz))
          case measure => exact h10
          case rel => exact ⟨i + sz, f', _, by go_num, h7, h9, h11, HD3, HR3, hb4, rfl⟩
end Go.Proofs.Ytaaeepanelmgnaa
