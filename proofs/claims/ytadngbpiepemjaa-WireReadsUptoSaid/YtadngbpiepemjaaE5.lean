/-
  The walk over the statement on reading messages that are changed, cut off or continued, where at most 300 bytes come in and the fields and their bytes are at most 400.
  Conditions: as typed.
-/
import Derived.Test.YtadngbpiepemjaaE3
import Derived.Test.YtadngbpiepemjaaG9
import Derived.Deep.DeepCutAuto
namespace Go.Proofs.Ytadngbpiepemjaa
open Go.RowKit

theorem enc_two (l : List Fld) : 2 * l.length ≤ (l.flatMap encF).length := by
  induction l with
  | nil => simp
  | cons f l ih =>
    have := encF_pos f
    rw [List.flatMap_cons, List.length_append, List.length_cons]
    omega
theorem flds_len (X : List Int) (hw : ∀ x, x ∈ X → W8 x) (hX : X.length ≤ 1000000) : (flds X).1.length ≤ X.length := by
  rcases flds_inv (X.length + 1) [] 0 X hw hX (Nat.lt_succ_self _) with ⟨e0, jj, hf, -, -, -⟩ | ⟨G, hf, hG, -⟩
  · have hf' : flds X = ([], (jj : Int), e0) := hf
    rw [hf']
    simp
  · have hf' : flds X = (G, 0, 0) := hf
    have := enc_two G
    rw [hG] at this
    rw [hf']
    simp only
    omega
/-- A block of one byte, as a slice. -/
theorem ysrc {w : World} {g : Nat} {y : Int} (h : w.cell? ⟨g, 0, none⟩ = some (.int .u8 y)) : Sl w (some ⟨g, 0, none⟩) 1 [y] := by
  refine .inr ⟨_, rfl, fun k hk => ⟨g, 0, rfl, ?_⟩⟩
  obtain rfl : k = 0 := by simpa using hk
  exact h
theorem ne1 (n : Nat) : some (⟨n + 1, 0, none⟩ : Addr).block ≠ (Value.slice (some ⟨n, 0, none⟩) 0 0).ownBlock := by
  intro e
  have : n + 1 = n := Option.some.inj e
  omega
theorem ne2 (n : Nat) : some (⟨n, 0, none⟩ : Addr).block ≠ (Value.slice (some ⟨n + 1, 0, none⟩) 0 0).ownBlock := by
  intro e
  have : n = n + 1 := Option.some.inj e
  omega

set_option maxHeartbeats 4000000 in
set_option maxRecDepth 100000 in
theorem reads_core (a : Option Addr) (c : Nat) (L : List Int) (b : Option Addr) (d : Nat) (ps : List (Fld × Value)) (at' y how : Int) (w : World) (hL : L.length ≤ 300) (hr : Sl w a c L) (hc : L.length ≤ c) (hw : ∀ x, x ∈ L → W8 x) (hF : Fs w b ps) (hP : ∀ p, p ∈ ps → W64 p.1.val ∧ ∀ x, x ∈ p.1.bytes → W8 x)
    (hbulk : bulkF ps ≤ 400) (hat : 0 ≤ at' ∧ at' ≤ 65535) (hy : W8 y) (hh : W8 how) :
    Calls Try.prog 4 #[.slice a L.length c, .slice b ps.length d, .int .u16 at', .int .u8 y, .int .u8 how] w fun e w' => e = .returned (.bool true) ∧ Below w.heap.size w w' := by
  have hb1 : decide ((300 : Int) < (L.length : Int)) = false := decide_eq_false (by omega)
  have cB := big_any b d ps w hF (by omega)
  rw [show decide (400 < bulkF ps) = false from decide_eq_false (by omega)] at cB
  have HR := Lib.hid hr
  have HW := Lib.hid hw
  have HF := Lib.hid hF
  have HP := Lib.hid hP
  have HY := Lib.hid hy
  have HSs := Lib.hid (sum_take (ps.map fun p => p.1.bytes.length))
  have HSl := Lib.hid (sum_take_le (ps.map fun p => p.1.bytes.length))
  have hB : ps.length + (ps.map fun p => p.1.bytes.length).sum ≤ 400 := hbulk
  have HBk := Lib.hid hB
  have hpl : ps.length ≤ 400 := by omega
  obtain ⟨i0, hi, hz0, hz1, hz2⟩ := info_parts info5
  have HI := Lib.hid hi
  have HZ0 := Lib.hid hz0
  have HZ1 := Lib.hid hz1
  have HZ2 := Lib.hid hz2
  obtain ⟨hat0, hat1⟩ := hat
  obtain ⟨hh0, hh1⟩ := hh
  clear hi hz0 hz1 hz2 hF hP hB hr hw hy hbulk
  go_enter Try.func4, Try.ntmps4
  go_wp2_with fail
  refine cB.mono ?_
  rintro e w1 ⟨rfl, hb2⟩
  clear cB
  go_wp2_with fail
  go_loopg [11, 34] ps.length (fun g s11 s34 wx => ∃ (k : Nat) (M : List Int), k ≤ ps.length ∧ s34 = .int .i64 k ∧ Own wx w.heap.size s11 M ∧ Hid (∀ x, x ∈ M → W8 x) ∧ M.length ≤ 20 * k + ((ps.map fun p => p.1.bytes.length).take k).sum ∧ Below w.heap.size w wx ∧ ps.length - k = g)
  case atStart => exact ⟨0, [], by omega, rfl, Own.nil _ _, Lib.hid (by simp), by simp, hb2, rfl⟩
  case round =>
    obtain ⟨k, M, hk, rfl, hom, hMw, hlen, hbx, rfl⟩ := hrel
    have hsz := hbx.size
    obtain ⟨am, cm, rfl, sm, hcm⟩ := hom.sl
    by_cases hlt : k < ps.length
    · obtain ⟨p, hp⟩ : ∃ p, ps[k]? = some p := ⟨_, List.getElem?_eq_getElem hlt⟩
      obtain ⟨hv, hwb⟩ := HP.out p (List.mem_of_getElem? hp)
      obtain ⟨bx, off, ba, bc, rfl, -, hsb, hbox⟩ := HF.out k p hp
      have h1 := HSs.out k (by rw [List.length_map]; exact hlt)
      have h2 := HSl.out (k + 1)
      rw [h1] at h2
      have hg : (ps.map fun p => p.1.bytes.length)[k]'(by rw [List.length_map]; exact hlt) = p.1.bytes.length := by
        rw [List.getElem_map]
        rw [List.getElem?_eq_getElem hlt] at hp
        rw [Option.some.inj hp]
      rw [hg] at h1 h2
      have H1 := Lib.hid h1
      have hbb := HBk.out
      have hS : ((ps.map fun p => p.1.bytes.length).take k).sum + p.1.bytes.length ≤ 400 := by omega
      obtain ⟨x0, x1, x2, x3⟩ := hbox.below hbx
      have hbA := hbx.alloc hsz (.cells #[.int .i64 p.1.num, .int .i64 p.1.kind, .int .u64 p.1.val, .slice ba p.1.bytes.length bc] 25)
      clear h1 h2 hg hbb hbox hcm
      go_wp2_with fail
      refine (near_zero p.1.num p.1.kind p.1.val ba p.1.bytes bc _).mono ?_
      rintro e w2 ⟨nu, ki, va, b2, B2, d2, rfl, hva, hB2, hvf, -, hb3'⟩
      have hb3 := bnext hbA hb3'
      have hbr2 : Below wr.heap.size wr w2 := bnext ((Below.refl _ wr).alloc (Nat.le_refl _) _) hb3'
      have hvf2 : Vf ⟨nu, ki, va, B2⟩ := by
        refine ⟨hvf, ?_, ?_, ?_⟩
        · rcases hva with rfl | rfl
          · exact hv
          · exact ⟨Int.le_refl 0, by show (0 : Int) ≤ 18446744073709551615; omega⟩
        · rcases hB2 with ⟨rfl, rfl, rfl⟩ | ⟨rfl, rfl, rfl⟩
          · exact hwb
          · simp
        · rcases hB2 with ⟨rfl, rfl, rfl⟩ | ⟨rfl, rfl, rfl⟩
          · show p.1.bytes.length ≤ _
            omega
          · simp
      have hsl2 : Sl w b2 d2 B2 := by
        rcases hB2 with ⟨rfl, rfl, rfl⟩ | ⟨rfl, rfl, rfl⟩
        · exact hsb
        · exact .inl ⟨rfl, rfl, rfl⟩
      have hBl : B2.length ≤ p.1.bytes.length := by
        rcases hB2 with ⟨rfl, rfl, rfl⟩ | ⟨rfl, rfl, rfl⟩
        · exact Nat.le_refl _
        · simp
      have hS2 : ((ps.map fun p => p.1.bytes.length).take k).sum + B2.length ≤ ((ps.map fun p => p.1.bytes.length).take (k + 1)).sum := by rw [H1.out]; omega
      have hB400 : B2.length ≤ 400 := by omega
      have hM0 : ((ps.map fun p => p.1.bytes.length).take k).sum ≤ 400 := by omega
      generalize hT2 : ((ps.map fun p => p.1.bytes.length).take (k + 1)).sum = T2 at *
      have HT2 := Lib.hid hT2
      generalize ((ps.map fun p => p.1.bytes.length).take k).sum = T1 at *
      have hEl := encF_le ⟨nu, ki, va, B2⟩
      have hEb := encF_bytes ⟨nu, ki, va, B2⟩ hvf2
      have hEe : encF ⟨nu, ki, va, B2⟩ = encI nu ki va B2 := rfl
      rw [hEe] at hEl hEb
      have cA := fun w hr hs => ref_field am cm M nu ki va b2 d2 B2 w (by omega) (by omega) hr hs hvf2.1 hvf2.2.1
      have HW2 := Lib.hid (app_bytes hMw.out hEb)
      have s2 := Lib.hid (sl_below sm hbr2)
      have sb2 := Lib.hid (sl_below hsl2 hb3)
      clear hT2 H1 hS hv hwb hsb x0 x1 x2 x3 hbA hva hB2 hBl hp hb3' hvf2 hvf hEe hEb hom sm hbr2 hsl2
      generalize encI nu ki va B2 = E at *
      have hlen2 : (M ++ E).length ≤ 20 * (k + 1) + T2 := by rw [List.length_append]; simp only at hEl; omega
      generalize M ++ E = N at *
      clear hEl
      have hz2 := hb3.size
      go_wp2_with fail
      refine (cA _ s2.out sb2.out).mono ?_
      rintro e w4 ⟨v4, rfl, ho4, hb4⟩
      have hb5 := bnext hb3 hb4
      have hO4 := ho4.base hz2
      clear cA ho4 hb4 s2 sb2
      go_wp2_with fail
      go_roundg (ps.length - (k + 1))
      case measure => omega
      case rel => exact ⟨k + 1, N, by omega, by go_num, hO4, HW2, by rw [HT2.out]; exact hlen2, hb5, rfl⟩
    · obtain rfl : k = ps.length := by omega
      have hT := HSl.out ps.length
      have hbb := HBk.out
      have hM2 : M.length ≤ 8400 := by omega
      obtain ⟨j, hj⟩ : ∃ j : Nat, at' % ((M.length : Int) + 1) = (j : Int) := ⟨(at' % ((M.length : Int) + 1)).toNat, by
        have := Int.emod_nonneg at' (show (M.length : Int) + 1 ≠ 0 by omega)
        omega⟩
      have hjM : j ≤ M.length := by
        have := Int.emod_lt_of_pos at' (show 0 < (M.length : Int) + 1 by omega)
        omega
      have HOM := Lib.hid hom
      have HSM := Lib.hid sm
      have hsl := fun wx => slice_to .i64 am M.length cm j wx (by omega)
      have hbE := hbx.alloc hsz (.cells #[] 5)
      have HS1 := Lib.hid (sl_below (sl_take sm j) ((Below.refl _ wr).alloc (Nat.le_refl _) (.cells #[] 5)))
      have hlj : (M.take j).length = j := by rw [List.length_take]; omega
      clear hT hbb hom sm hlen hk hlt hb2
      go_wp2_with (at_builtin; refine append_src rfl _ _ 22 rfl wr.heap.size i0 Try.underlying22 HI.out HZ0.out HZ1.out HZ2.out _ 0 [] rfl (own_empty wr) am j cm (M.take j) rfl hlj HS1.out ?e1 ?e2 ?_)
      case e1 => omega
      case e2 => simp
      intro v2 w2 ho2 hgrow
      have hbR : Below wr.heap.size wr w2 := after_append (w0 := wr) (Nat.le_refl _) (by simp) (own_empty wr) ((Below.refl _ wr).alloc (Nat.le_refl _) _) hgrow
      have hoA : Own w2 wr.heap.size v2 (M.take j) := by
        show w2.ownsRow _ _ _ _ _ _
        rw [hlj]
        simpa using ho2
      have HA := Lib.hid hoA
      have hwA : Hid (∀ x, x ∈ M.take j → W8 x) := Lib.hid (fun x hx => hMw.out x (List.mem_of_mem_take hx))
      have hlA : (M.take j).length ≤ 8400 := by omega
      have hsl1 := fun wx => slice_from .i64 am M.length cm j wx hjM
      have hSD := Lib.hid (sl_from HSM.out j hcm)
      have hSA := Lib.hid (sl_take HSM.out j)
      have HSR := Lib.hid HSM.out
      have hlD : (M.drop j).length = M.length - j := List.length_drop
      have hwD : Hid (∀ x, x ∈ M.drop j → W8 x) := Lib.hid (fun x hx => hMw.out x (List.mem_of_mem_drop hx))
      obtain ⟨wR, rfl⟩ : ∃ wR, wR = wr := ⟨_, rfl⟩
      have HLJ := Lib.hid hlj
      have HLD := Lib.hid hlD
      clear ho2 hgrow hbE HS1 hoA hlj hlD
      generalize M.take j = A at *
      generalize M.drop j = D at *
      go_upto_if 59 with fail
      go_cut [15] (fun s15 wx => ∃ C, Own wx wR.heap.size s15 C ∧ C.length ≤ 16801 ∧ Hid (∀ x, x ∈ C → W8 x) ∧ Below wR.heap.size wR wx)
      case first =>
        by_cases ht : bits .and .u8 how 1 = 1
        · have ht1 : (bits .and .u8 how 1 == 1) = true := by simpa using ht
          clear ht
          have hoB : ((w2.alloc (.cells #[.int .u8 y] 5)).drew).ownsRow wR.heap.size 5 1 v2 A.length (A.map (Value.int .u8)) := World.ownsRow.alloc HA.out _
          have hsB : Sl ((w2.alloc (.cells #[.int .u8 y] 5)).drew) (some ⟨w2.heap.size, 0, none⟩) 1 [y] := sl_one w2 y 5
          have hbB : Below wR.heap.size wR ((w2.alloc (.cells #[.int .u8 y] 5)).drew) := (hbR.alloc hbR.size _).drew
          have hcB : A.length + 1 ≤ 140737488355328 := by omega
          have hcC : A.length + 1 + (M.length - j) ≤ 140737488355328 := by omega
          have HBB := Lib.hid hbB
          have hzB := hbB.size
          have HOB := Lib.hid hoB
          have HSB := Lib.hid hsB
          have HDL := HLD.out
          have HDL' := Lib.hid HDL
          clear hbB hoB hsB HDL
          go_wp2_with fail
          go_region_held3 (fun _ => True) (trivial) (first
            | (refine step_append_src (w := w3) rfl _ _ 22 rfl wR.heap.size i0 Try.underlying22 HI.out HZ0.out HZ1.out HZ2.out v3 (A.length + 1) _ rfl ho3 (fromA am cm j) (M.length - j) (cm - j) D rfl HDL'.out hs3 hcC hb3.size ?_; intro v4 w4 ho4 hg4; have hb4 := after_append (Nat.le_refl _) hb3.size ho3 hb3 hg4)
            | (refine step_append_src (w := (w2.alloc (.cells #[.int .u8 y] 5)).drew) rfl _ _ 22 rfl wR.heap.size i0 Try.underlying22 HI.out HZ0.out HZ1.out HZ2.out v2 A.length _ rfl HOB.out (some ⟨w2.heap.size, 0, none⟩) 1 1 [y] rfl rfl HSB.out hcB hzB ?_; intro v3 w3 ho3 hg3; have hb3 := after_append (Nat.le_refl _) hzB HOB.out HBB.out hg3; have hs3 := sl_below hSD.out hb3))
          have hO4 : Own w4 wR.heap.size v4 ((A ++ [y]) ++ D) := by
            show w4.ownsRow _ _ _ _ _ _
            rw [List.length_append, List.length_append, HDL'.out, List.map_append, List.map_append]
            exact ho4
          have hl4 : ((A ++ [y]) ++ D).length ≤ 16801 := by
            rw [List.length_append, List.length_append, HDL'.out, List.length_singleton]
            omega
          have hw4 := Lib.hid (app_bytes (app_bytes hwA.out (one_byte HY.out)) hwD.out)
          clear ho4 hg4 hg3 ho3 hs3 hb3
          go_wp2_with fail
          go_meet
          exact ⟨_, hO4, hl4, hw4, hb4⟩
        · have ht1 : (bits .and .u8 how 1 == 1) = false := by simpa using ht
          clear ht
          go_wp2_with fail
          go_meet
          exact ⟨A, HA.out, by omega, hwA, hbR⟩
      case rest =>
        obtain ⟨C, hoC, hlC, hwC, hbC⟩ := hcut
        have HOC := Lib.hid hoC
        have hzC := hbC.size
        clear hoC HA hsl1 hSD hwD HLD hlA
        obtain ⟨wC, rfl⟩ : ∃ wC, wC = wc := ⟨_, rfl⟩
        go_upto_region 13 with fail
        go_cut [76] (fun s76 wx => wC = wx ∧ ∃ t : Bool, s76 = .bool t ∧ Hid (t = true → j < M.length))
        case first =>
          by_cases ht : bits .and .u8 how 2 = 2
          · have ht1 : (bits .and .u8 how 2 == 2) = true := by simpa using ht
            clear ht
            by_cases hlt : j < M.length
            · go_wp2_with fail
              go_meet
              exact ⟨rfl, true, rfl, fun _ => hlt⟩
            · go_wp2_with fail
              go_meet
              exact ⟨rfl, false, rfl, fun h => by cases h⟩
          · have ht1 : (bits .and .u8 how 2 == 2) = false := by simpa using ht
            clear ht
            go_wp2_with fail
            go_meet
            exact ⟨rfl, false, rfl, fun h => by cases h⟩
        case rest =>
        obtain ⟨rfl, t, rfl, htj⟩ := hcut
        go_upto_if 76 with fail
        go_cut [15] (fun s15 wx => ∃ C, Own wx wR.heap.size s15 C ∧ C.length ≤ 16801 ∧ Hid (∀ x, x ∈ C → W8 x) ∧ Below wR.heap.size wR wx)
        case first =>
          cases t with
          | false =>
            go_wp2_with fail
            go_meet
            exact ⟨C, HOC.out, hlC, hwC, hbC⟩
          | true =>
            have hlt := htj.out rfl
            have hsl2 : ∀ wx, (Instr.slice 22 (.slice am M.length cm) (some (.int .i64 ((j : Int) + 1))) none none).run Try.prog wx = .ok (.slice (fromA am cm (j + 1)) (M.length - (j + 1)) (cm - (j + 1))) wx := fun wx => slice_from .i64 am M.length cm (j + 1) wx hlt
            have hSD := Lib.hid (sl_from HSM.out (j + 1) hcm)
            have hlD : (M.drop (j + 1)).length = M.length - (j + 1) := List.length_drop
            have hwD : Hid (∀ x, x ∈ M.drop (j + 1) → W8 x) := Lib.hid (fun x hx => hMw.out x (List.mem_of_mem_drop hx))
            have HLD := Lib.hid hlD
            clear hlD
            generalize M.drop (j + 1) = D2 at *
            have hsum : IntKind.i64.wrap ((j : Int) + 1) = (j : Int) + 1 := by rw [IntKind.wrap_i64]; omega
            have hj0 : (0 : Int) ≤ (j : Int) := by omega
            -- the worlds before the first append
            have hbE := hbC.alloc hzC (.cells #[] 5)
            have hbY := hbC.alloc hzC (.cells #[.int .u8 y] 5)
            have hbEY := hbE.alloc hbE.size (.cells #[.int .u8 y] 5)
            have hbYE := hbY.alloc hbY.size (.cells #[] 5)
            have oE : Hid (((wC.alloc (.cells #[] 5)).drew).ownsRow wR.heap.size 5 1 (.slice (some ⟨wC.heap.size, 0, none⟩) 0 0) 0 []) := own_base (own_empty wC) hzC
            have oEY : Hid ((((wC.alloc (.cells #[] 5)).alloc (.cells #[.int .u8 y] 5)).drew).ownsRow wR.heap.size 5 1 (.slice (some ⟨wC.heap.size, 0, none⟩) 0 0) 0 []) := own_base (World.ownsRow.alloc (own_empty wC) _) hzC
            have oYE : Hid ((((wC.alloc (.cells #[.int .u8 y] 5)).alloc (.cells #[] 5)).drew).ownsRow wR.heap.size 5 1 (.slice (some ⟨wC.heap.size + 1, 0, none⟩) 0 0) 0 []) := by
              have h := own_empty (wC.alloc (.cells #[.int .u8 y] 5))
              rw [show (wC.alloc (.cells #[.int .u8 y] 5)).heap.size = wC.heap.size + 1 from by simp] at h
              exact own_base h (by omega)
            have sE : Hid (Sl ((wC.alloc (.cells #[] 5)).drew) am cm A) := sl_below hSA.out hbE.drew
            have sEY : Hid (Sl (((wC.alloc (.cells #[] 5)).alloc (.cells #[.int .u8 y] 5)).drew) am cm A) := sl_below hSA.out hbEY.drew
            have sYE : Hid (Sl (((wC.alloc (.cells #[.int .u8 y] 5)).alloc (.cells #[] 5)).drew) am cm A) := sl_below hSA.out hbYE.drew
            have bE : Hid (Below wR.heap.size wR ((wC.alloc (.cells #[] 5)).drew)) := hbE.drew
            have bEY : Hid (Below wR.heap.size wR (((wC.alloc (.cells #[] 5)).alloc (.cells #[.int .u8 y] 5)).drew)) := hbEY.drew
            have bYE : Hid (Below wR.heap.size wR (((wC.alloc (.cells #[.int .u8 y] 5)).alloc (.cells #[] 5)).drew)) := hbYE.drew
            have cEY : Hid ((((wC.alloc (.cells #[] 5)).alloc (.cells #[.int .u8 y] 5)).drew).cell? ⟨wC.heap.size + 1, 0, none⟩ = some (.int .u8 y)) := Lib.hid (by show ((wC.alloc (.cells #[] 5)).alloc (.cells #[.int .u8 y] 5)).cell? _ = _; simp)
            have cYE : Hid ((((wC.alloc (.cells #[.int .u8 y] 5)).alloc (.cells #[] 5)).drew).cell? ⟨wC.heap.size, 0, none⟩ = some (.int .u8 y)) := Lib.hid (by show ((wC.alloc (.cells #[.int .u8 y] 5)).alloc (.cells #[] 5)).cell? _ = _; simp)
            have hcA : 0 + j ≤ 140737488355328 := by omega
            have hcB : 0 + j + 1 ≤ 140737488355328 := by omega
            have hcC : 0 + j + 1 + (M.length - (j + 1)) ≤ 140737488355328 := by omega
            clear hbE hbY hbEY hbYE hj
            go_wp2_with fail
            go_region_held3 (fun _ => True) (trivial) (first
              | (refine step_append_src (w := w7) rfl _ _ 22 rfl wR.heap.size i0 Try.underlying22 HI.out HZ0.out HZ1.out HZ2.out v7 (0 + j + 1) _ rfl ho7 (fromA am cm (j + 1)) (M.length - (j + 1)) (cm - (j + 1)) D2 rfl HLD.out hs7 hcC hb7.size ?_; intro v8 w8 ho8 hg8; have hb8 := after_append (Nat.le_refl _) hb7.size ho7 hb7 hg8)
              | (refine step_append_src (w := w5.alloc (.cells #[.int .u8 y] 5)) rfl _ _ 22 rfl wR.heap.size i0 Try.underlying22 HI.out HZ0.out HZ1.out HZ2.out v5 (0 + j) _ rfl (World.ownsRow.alloc ho5 _) (some ⟨w5.heap.size, 0, none⟩) 1 1 [y] rfl rfl (sl_one w5 y 5) hcB (hb5.alloc hb5.size _).size ?_; intro v7 w7 ho7 hg7; have hb7 := after_append (Nat.le_refl _) (hb5.alloc hb5.size (.cells #[.int .u8 y] 5)).size (World.ownsRow.alloc ho5 _) (hb5.alloc hb5.size _) hg7; have hs7 := sl_below hSD.out hb7)
              | (refine step_append_src (w := w5) rfl _ _ 22 rfl wR.heap.size i0 Try.underlying22 HI.out HZ0.out HZ1.out HZ2.out v5 (0 + j) _ rfl ho5 _ 1 1 [y] rfl rfl sy hcB hb5.size ?_; intro v7 w7 ho7 hg7; have hb7 := after_append (Nat.le_refl _) hb5.size ho5 hb5 hg7; have hs7 := sl_below hSD.out hb7)
              | (refine step_append_src (w := (wC.alloc (.cells #[] 5)).drew) rfl _ _ 22 rfl wR.heap.size i0 Try.underlying22 HI.out HZ0.out HZ1.out HZ2.out _ 0 [] rfl oE.out am j cm A rfl HLJ.out sE.out hcA bE.out.size ?_; intro v5 w5 ho5 hg5; have hb5 := after_append (Nat.le_refl _) bE.out.size oE.out bE.out hg5)
              | (refine step_append_src (w := ((wC.alloc (.cells #[] 5)).alloc (.cells #[.int .u8 y] 5)).drew) rfl _ _ 22 rfl wR.heap.size i0 Try.underlying22 HI.out HZ0.out HZ1.out HZ2.out _ 0 [] rfl oEY.out am j cm A rfl HLJ.out sEY.out hcA bEY.out.size ?_; intro v5 w5 ho5 hg5; have hb5 := after_append (Nat.le_refl _) bEY.out.size oEY.out bEY.out hg5; have sy := ysrc (hg5.cell cEY.out (ne1 _)))
              | (refine step_append_src (w := ((wC.alloc (.cells #[.int .u8 y] 5)).alloc (.cells #[] 5)).drew) rfl _ _ 22 rfl wR.heap.size i0 Try.underlying22 HI.out HZ0.out HZ1.out HZ2.out _ 0 [] rfl oYE.out am j cm A rfl HLJ.out sYE.out hcA bYE.out.size ?_; intro v5 w5 ho5 hg5; have hb5 := after_append (Nat.le_refl _) bYE.out.size oYE.out bYE.out hg5; have sy := ysrc (hg5.cell cYE.out (ne2 _))))
            all_goals
              have hO8 : Own w8 wR.heap.size v8 ((A ++ [y]) ++ D2) := by
                show w8.ownsRow _ _ _ _ _ _
                rw [List.length_append, List.length_append, HLJ.out, HLD.out, List.map_append, List.map_append]
                simpa using ho8
              have hl8 : ((A ++ [y]) ++ D2).length ≤ 16801 := by
                rw [List.length_append, List.length_append, HLJ.out, HLD.out, List.length_singleton]
                omega
              have hw8 := Lib.hid (app_bytes (app_bytes hwA.out (one_byte HY.out)) hwD.out)
              clear ho8 hg8 hg7 ho7 hs7 hb7 hg5 ho5 hb5
              go_wp2_with fail
              go_meet
              exact ⟨_, hO8, hl8, hw8, hb8⟩
        case rest =>
          obtain ⟨C2, hoC2, hlC2, hwC2, hbC2⟩ := hcut
          have HC2 := Lib.hid hoC2
          have hz2 := hbC2.size
          obtain ⟨wB, rfl⟩ : ∃ wB, wB = wc := ⟨_, rfl⟩
          have hbB := bnext hbx hbC2
          clear hoC2 hj hwA hSA HLJ HOC hwC hlC htj
          have hbE := (Below.refl wB.heap.size wB).alloc (Nat.le_refl _) (.cells #[] 5)
          have SM1 := Lib.hid (sl_below (sl_below HSM.out hbC2) hbE)
          go_wp2_with (at_builtin; refine append_src rfl _ _ 22 rfl wB.heap.size i0 Try.underlying22 HI.out HZ0.out HZ1.out HZ2.out _ 0 [] rfl (own_empty wB) am M.length cm M rfl rfl SM1.out ?f1 ?f2 ?_)
          case f1 => omega
          case f2 => exact hbE.size
          intro v5 w5 ho5 hg5
          have hb5 := after_append (w0 := wB) (Nat.le_refl _) hbE.size (own_empty wB) hbE hg5
          have SL1 := Lib.hid (sl_below HR.out (bnext hbB hb5))
          have hz5 := hb5.size
          go_wp2_with (at_builtin; refine append_src rfl _ _ 22 rfl wB.heap.size i0 Try.underlying22 HI.out HZ0.out HZ1.out HZ2.out _ _ _ rfl ho5 a L.length c L rfl rfl SL1.out ?f3 ?f4 ?_)
          case f3 => omega
          case f4 => exact hz5
          intro v6 w6 ho6 hg6
          have hb6 := after_append (Nat.le_refl _) hz5 ho5 hb5 hg6
          have hO6 : Own w6 wB.heap.size v6 (M ++ L) := by
            show w6.ownsRow _ _ _ _ _ _
            rw [List.length_append, List.map_append]
            simpa using ho6
          obtain ⟨a6, c6, rfl, s6, hc6⟩ := hO6.sl
          have hlE : (M ++ L).length ≤ 9000 := by rw [List.length_append]; omega
          have hwE := Lib.hid (app_bytes hMw.out HW.out)
          obtain ⟨aC, cC, rfl, sC, hcC⟩ := HC2.out.sl
          have SC := Lib.hid (sl_below sC hb6)
          have S6 := Lib.hid s6
          have SM := Lib.hid (sl_below (sl_below HSM.out hbC2) hb6)
          have hb6' := bnext hbB hb6
          have SL := Lib.hid (sl_below HR.out hb6')
          clear ho5 hg5 hb5 SL1 ho6 hg6 hO6 s6 sC SM1 hbE
          generalize M ++ L = E at *
          go_wp2_with fail
          obtain ⟨w7, hw7⟩ : ∃ w7, w7 = w6.alloc (.cells #[.slice a L.length c, .slice am M.length cm, .slice aC C2.length cC, .slice a6 E.length c6] 22) := ⟨_, rfl⟩
          have hB7 : Below w.heap.size w w7 := by rw [hw7]; exact hb6'.alloc hb6'.size _
          have hBr : Below w6.heap.size w6 w7 := by rw [hw7]; exact (Below.refl _ _).alloc (Nat.le_refl _) _
          have HX : Hid (∀ i : Nat, i < 4 → ∃ (ax : Option Addr) (cx : Nat) (X : List Int), w7.cell? ⟨w6.heap.size, i, none⟩ = some (.slice ax X.length cx) ∧ Sl w7 ax cx X ∧ X.length ≤ cx ∧ X.length ≤ 20000 ∧ ∀ x, x ∈ X → W8 x) := by
            have hc' : ∀ i, w7.cell? ⟨w6.heap.size, i, none⟩ = (#[.slice a L.length c, .slice am M.length cm, .slice aC C2.length cC, .slice a6 E.length c6] : Array Value)[i]? := by
              intro i
              rw [hw7, cell_of_row _ w6.heap.size i _ 22 (0, 0) (heap_alloc_new w6 _)]
            intro i hi
            match i, hi with
            | 0, _ => exact ⟨a, c, L, hc' 0, sl_below SL.out hBr, hc, by omega, HW.out⟩
            | 1, _ => exact ⟨am, cm, M, hc' 1, sl_below SM.out hBr, hcm, by omega, hMw.out⟩
            | 2, _ => exact ⟨aC, cC, C2, hc' 2, sl_below SC.out hBr, hcC, by omega, hwC2.out⟩
            | 3, _ => exact ⟨a6, c6, E, hc' 3, sl_below S6.out hBr, hc6, by omega, hwE.out⟩
          have hz7 : w6.heap.size < w7.heap.size := by rw [hw7]; simp
          rw [← hw7]
          have HB7 := Lib.hid hB7
          clear hw7 hB7 hBr hb6' hbB hb6 SL SM SC S6 HC2 hbC2 hwE hwC2 hbC hbR
          generalize w6.heap.size = gB at *
          go_loopg [100] 4 (fun g s100 wx => ∃ i : Nat, i ≤ 4 ∧ s100 = .int .i64 i ∧ Below w7.heap.size w7 wx ∧ 4 - i = g)
          case atStart => exact ⟨0, by omega, rfl, Below.refl _ _, rfl⟩
          case round =>
            obtain ⟨i, hi, rfl, hby, rfl⟩ := hrel
            have hyz := hby.size
            by_cases hlt : i < 4
            · obtain ⟨ax, cx, X, hcx, hsx, hXc, hX, hXw⟩ := HX.out i hlt
              have hc1 := (hby.cell (p := ⟨gB, i, none⟩) hz7).trans hcx
              have SX := Lib.hid (sl_below hsx hby)
              have cF := fun w hs => code_fields ax cx X w (by omega) hs hXw hXc
              have cG := fun w hs => ref_fields ax cx X w (by omega) hs hXw hXc
              have hfl := flds_len X hXw (by omega)
              generalize flds X = R at *
              obtain ⟨RF, Rp, Re⟩ := R
              simp only at hfl
              clear hsx hcx hXw
              go_wp2_with fail
              refine (cF _ SX.out).mono ?_
              rintro e w8 ⟨v8, ps1, rfl, hp1, hr1, hb8⟩
              simp only at hp1
              obtain ⟨a8, c8, rfl, -, hF1⟩ := hr1.fs
              have S8 := Lib.hid (sl_below SX.out hb8)
              have HF1 := Lib.hid hF1
              have HP1 := Lib.hid hp1
              have hb9 := bnext hby hb8
              clear cF hr1 hF1 hp1 hb8 SX
              go_wp2_with fail
              refine (cG _ S8.out).mono ?_
              rintro e w9 ⟨v9, ps2, rfl, hp2, hr2, hb10⟩
              simp only at hp2
              obtain ⟨a9, c9, rfl, -, hF2⟩ := hr2.fs
              have hl1 : ps1.length ≤ 100000000 := by
                have := congrArg List.length HP1.out
                rw [List.length_map] at this
                omega
              have cQ := sameFields_true a8 c8 ps1 a9 c9 ps2 w9 (HF1.out.below hb10) hF2 (HP1.out.trans hp2.symm) hl1
              have hb11 := bnext hb9 hb10
              clear cG hr2 hF2 hp2 hb10 S8 HF1 HP1
              go_wp2_with fail
              refine cQ.mono ?_
              rintro e w10 ⟨rfl, hb12⟩
              have hb13 := bnext hb11 hb12
              clear cQ hb12
              go_wp2_with fail
              go_roundg (4 - (i + 1))
              case measure => omega
              case rel => exact ⟨i + 1, by omega, by go_num, hb13, rfl⟩
            · go_wp2_with fail
              refine (known_true _).mono ?_
              rintro e w8 ⟨rfl, hb8⟩
              go_wp2
              go_ret
              exact ⟨rfl, bnext (bnext HB7.out hby) hb8⟩
end Go.Proofs.Ytadngbpiepemjaa
