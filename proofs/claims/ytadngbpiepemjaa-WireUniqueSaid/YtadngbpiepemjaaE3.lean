/-
  The walk over the statement that what can be read as a message is written again as it is, where at most 200 and at most 60 bytes come in.
  Conditions: as typed.
-/
import Derived.Test.YtadngbpiepemjaaH5
namespace Go.Proofs.Ytadngbpiepemjaa
open Go.RowKit

theorem app_bytes {M N : List Int} (h : ∀ x, x ∈ M → W8 x) (h1 : ∀ x, x ∈ N → W8 x) : ∀ x, x ∈ M ++ N → W8 x := fun x hx => (List.mem_append.1 hx).elim (h x) (h1 x)
theorem one_byte {x : Int} (h : W8 x) : ∀ y, y ∈ [x] → W8 y := fun y hy => by
  obtain rfl : y = x := by simpa using hy
  exact h
theorem Own.snoc {w' : World} {B : Nat} {v' : Value} {M N : List Int} (h : w'.ownsRow B 5 1 v' (M.length + N.length) (M.map (Value.int .u8) ++ N.map (Value.int .u8))) : Own w' B v' (M ++ N) := by
  show w'.ownsRow _ _ _ _ _ _
  rw [List.length_append, List.map_append]
  exact h
/-- What the first i fields of a list are written as. -/
def encT (ps : List (Fld × Value)) (i : Nat) : List Int := ((ps.map Prod.fst).take i).flatMap encF
theorem encT_succ (ps : List (Fld × Value)) (i : Nat) (p : Fld × Value) (h : ps[i]? = some p) : encT ps (i + 1) = encT ps i ++ encF p.1 := by
  unfold encT
  have hl : i < (ps.map Prod.fst).length := by rw [List.length_map]; exact (List.getElem?_eq_some_iff.1 h).1
  have he : (ps.map Prod.fst)[i] = p.1 := by
    have : (ps.map Prod.fst)[i]? = some p.1 := by rw [List.getElem?_map, h]; rfl
    rw [List.getElem?_eq_getElem hl] at this
    exact Option.some.inj this
  rw [List.take_succ_eq_append_getElem hl, List.flatMap_append, he]
  simp only [List.flatMap_cons, List.flatMap_nil, List.append_nil]
theorem encT_all (ps : List (Fld × Value)) : encT ps ps.length = (ps.map Prod.fst).flatMap encF := by
  unfold encT
  rw [List.take_of_length_le (by rw [List.length_map]; exact Nat.le_refl _)]
theorem encT_le (ps : List (Fld × Value)) (i : Nat) : (encT ps i).length ≤ ((ps.map Prod.fst).flatMap encF).length := by
  have h : (ps.map Prod.fst).flatMap encF = encT ps i ++ ((ps.map Prod.fst).drop i).flatMap encF := by
    unfold encT
    rw [← List.flatMap_append, List.take_append_drop]
  rw [h, List.length_append]
  omega
theorem ten_at (j : Nat) (hj : j < 10) : ∃ y, W8 y ∧ ∀ h : j < [Value.int .u8 8, .int .u8 18, .int .u8 1, .int .u8 0, .int .u8 2, .int .u8 97, .int .u8 128, .int .u8 255, .int .u8 26, .int .u8 16].length, [Value.int .u8 8, .int .u8 18, .int .u8 1, .int .u8 0, .int .u8 2, .int .u8 97, .int .u8 128, .int .u8 255, .int .u8 26, .int .u8 16][j]'h = .int .u8 y := by
  unfold W8
  match j, hj with
  | 0, _ => exact ⟨8, by omega, fun _ => rfl⟩
  | 1, _ => exact ⟨18, by omega, fun _ => rfl⟩
  | 2, _ => exact ⟨1, by omega, fun _ => rfl⟩
  | 3, _ => exact ⟨0, by omega, fun _ => rfl⟩
  | 4, _ => exact ⟨2, by omega, fun _ => rfl⟩
  | 5, _ => exact ⟨97, by omega, fun _ => rfl⟩
  | 6, _ => exact ⟨128, by omega, fun _ => rfl⟩
  | 7, _ => exact ⟨255, by omega, fun _ => rfl⟩
  | 8, _ => exact ⟨26, by omega, fun _ => rfl⟩
  | 9, _ => exact ⟨16, by omega, fun _ => rfl⟩

set_option maxHeartbeats 4000000 in
set_option maxRecDepth 100000 in
theorem unique_core (a : Option Addr) (c : Nat) (L : List Int) (b : Option Addr) (d : Nat) (S : List Int) (w : World) (hL : L.length ≤ 200) (hS : S.length ≤ 60) (hr : Sl w a c L) (hc : L.length ≤ c) (hw : ∀ x, x ∈ L → W8 x) (hs : Sl w b d S) (hv : ∀ x, x ∈ S → W8 x) :
    Calls Try.prog 6 #[.slice a L.length c, .slice b S.length d] w fun e w' => e = .returned (.bool true) ∧ Below w.heap.size w w' := by
  have hb1 : decide ((200 : Int) < (L.length : Int)) = false := decide_eq_false (by omega)
  have hb2 : decide ((60 : Int) < (S.length : Int)) = false := decide_eq_false (by omega)
  have HR := Lib.hid hr
  have HS := Lib.hid hs
  have HW := Lib.hid hw
  have HV := Lib.hid hv
  obtain ⟨i0, hi, hz0, hz1, hz2⟩ := info_parts info5
  have HI := Lib.hid hi
  have HZ0 := Lib.hid hz0
  have HZ1 := Lib.hid hz1
  have HZ2 := Lib.hid hz2
  clear hi hz0 hz1 hz2 hr hs hw hv
  go_enter Try.func6, Try.ntmps6
  go_wp2_with fail
  clear hb1 hb2
  go_loopg [5, 27] S.length (fun g s5 s27 wx => ∃ (k : Nat) (M : List Int), k ≤ S.length ∧ s27 = .int .i64 k ∧ M.length ≤ 2 * k ∧ Hid (∀ x, x ∈ M → W8 x) ∧ Own wx w.heap.size s5 M ∧ Below w.heap.size w wx ∧ S.length - k = g)
  case atStart => exact ⟨0, [], by omega, rfl, by simp, Lib.hid (by simp), Own.nil _ _, Below.refl _ _, rfl⟩
  case round =>
    obtain ⟨k, M, hk, rfl, hM, hMw, ho, hb, rfl⟩ := hrel
    have hsz := hb.size
    by_cases hlt : k < S.length
    · obtain ⟨b0, off, rfl, hbl, hcl⟩ := sl_at HS.out hlt
      have hcr := (hb.cell (p := ⟨b0, off + k, none⟩) hbl).trans hcl
      have hx := HV.out (S.getD k 0) (by rw [List.getD_eq_getElem?_getD, List.getElem?_eq_getElem hlt]; exact List.getElem_mem hlt)
      generalize S.getD k 0 = x at *
      obtain ⟨hx0, hx1⟩ := hx
      obtain ⟨j, hj⟩ : ∃ j : Nat, x % 10 = (j : Int) := ⟨(x % 10).toNat, by omega⟩
      have hj10 : j < 10 := by omega
      obtain ⟨y, hy, hten⟩ := ten_at j hj10
      clear hcl
      have hbB := hb.alloc hsz (.cells #[.int .u8 8, .int .u8 18, .int .u8 1, .int .u8 0, .int .u8 2, .int .u8 97, .int .u8 128, .int .u8 255, .int .u8 26, .int .u8 16] 5)
      have hbC := hbB.alloc hbB.size (.cells #[.int .u8 y] 5)
      have hoC := World.ownsRow.alloc (World.ownsRow.alloc ho (.cells #[.int .u8 8, .int .u8 18, .int .u8 1, .int .u8 0, .int .u8 2, .int .u8 97, .int .u8 128, .int .u8 255, .int .u8 26, .int .u8 16] 5)) (.cells #[.int .u8 y] 5)
      go_wp2_with (at_builtin; refine append_src rfl _ _ 22 rfl w.heap.size i0 Try.underlying22 HI.out HZ0.out HZ1.out HZ2.out _ M.length _ rfl hoC (some ⟨wr.heap.size + 1, 0, none⟩) 1 1 [y] rfl rfl (by have := sl_one (wr.alloc (.cells #[.int .u8 8, .int .u8 18, .int .u8 1, .int .u8 0, .int .u8 2, .int .u8 97, .int .u8 128, .int .u8 255, .int .u8 26, .int .u8 16] 5)) y 5; simpa using this) ?e1 ?e2 ?_)
      case e1 => omega
      case e2 => exact hbC.size
      intro v2 w2 ho2 hgrow
      have hb2 := after_append (Nat.le_refl _) hbC.size hoC hbC hgrow
      have hO2 : Own w2 w.heap.size v2 (M ++ [y]) := Own.snoc (by simpa using ho2)
      have HW2 := Lib.hid (app_bytes hMw.out (one_byte hy))
      have HN : Hid ((M ++ [y]).length = M.length + 1) := Lib.hid (by rw [List.length_append]; rfl)
      clear hgrow ho2 hoC hbB hbC ho hten hj
      generalize M ++ [y] = N at *
      have hz2 := hb2.size
      have hN := HN.out
      have hN1 : N.length ≤ 2 * k + 1 := by omega
      clear hN HN
      by_cases h1 : k < L.length ∧ 200 ≤ x
      · obtain ⟨h1, h2⟩ := h1
        obtain ⟨b1, of1, rfl, hbl1, hcl1⟩ := sl_at HR.out h1
        have hcr1 := (hb2.cell (p := ⟨b1, of1 + k, none⟩) hbl1).trans hcl1
        have hz := HW.out (L.getD k 0) (by rw [List.getD_eq_getElem?_getD, List.getElem?_eq_getElem h1]; exact List.getElem_mem h1)
        generalize L.getD k 0 = z at *
        clear hcl1
        have hbD := hb2.alloc hz2 (.cells #[.int .u8 z] 5)
        have hoD := World.ownsRow.alloc hO2 (.cells #[.int .u8 z] 5)
        go_wp2_with (at_builtin; refine append_src rfl _ _ 22 rfl w.heap.size i0 Try.underlying22 HI.out HZ0.out HZ1.out HZ2.out _ N.length _ rfl hoD (some ⟨w2.heap.size, 0, none⟩) 1 1 [z] rfl rfl (sl_one _ _ _) ?f1 ?f2 ?_)
        case f1 => omega
        case f2 => exact hbD.size
        intro v3 w3 ho3 hgrow
        have hb3 := after_append (Nat.le_refl _) hbD.size hoD hbD hgrow
        have hO3 : Own w3 w.heap.size v3 (N ++ [z]) := Own.snoc (by simpa using ho3)
        have HW3 := Lib.hid (app_bytes HW2.out (one_byte hz))
        have hN3 : (N ++ [z]).length ≤ 2 * (k + 1) := by rw [List.length_append, List.length_singleton]; omega
        clear hgrow ho3 hoD hbD hO2
        go_wp2_with fail
        go_roundg (S.length - (k + 1))
        case measure => omega
        case rel => exact ⟨k + 1, N ++ [z], by omega, by go_num, hN3, HW3, hO3, hb3, rfl⟩
      · by_cases h2 : k < L.length
        all_goals
          have h3 : k < L.length → ¬ 200 ≤ x := fun h h' => h1 ⟨h, h'⟩
          first
            | have h4 : ¬ 200 ≤ x := h3 h2
            | have h4 := h2
          clear h1 h3
          go_wp2_with fail
          go_roundg (S.length - (k + 1))
          case measure => omega
          case rel => exact ⟨k + 1, N, by omega, by go_num, by omega, HW2, hO2, hb2, rfl⟩
    · obtain rfl : k = S.length := by omega
      obtain ⟨a5, c5, rfl, s5, hc5⟩ := ho.sl
      have hM2 : M.length ≤ 120 := by omega
      clear hM ho
      go_wp2_with fail
      obtain ⟨w4, hw4⟩ : ∃ w4, w4 = wr.alloc (.cells #[.slice a L.length c, .slice a5 M.length c5] 22) := ⟨_, rfl⟩
      have hB4 : Below w.heap.size w w4 := by rw [hw4]; exact hb.alloc hsz _
      have hBr : Below wr.heap.size wr w4 := by rw [hw4]; exact (Below.refl _ _).alloc (Nat.le_refl _) _
      have HC : Hid (∀ j : Nat, j < 2 → ∃ (ax : Option Addr) (cx : Nat) (X : List Int), w4.cell? ⟨wr.heap.size, j, none⟩ = some (.slice ax X.length cx) ∧ Sl w4 ax cx X ∧ X.length ≤ cx ∧ X.length ≤ 200 ∧ ∀ x, x ∈ X → W8 x) := by
        have hc' : ∀ j, w4.cell? ⟨wr.heap.size, j, none⟩ = (#[.slice a L.length c, .slice a5 M.length c5] : Array Value)[j]? := by
          intro j
          rw [hw4, cell_of_row _ wr.heap.size j _ 22 (0, 0) (heap_alloc_new wr _)]
        intro j hj
        match j, hj with
        | 0, _ => exact ⟨a, c, L, hc' 0, sl_below HR.out hB4, hc, hL, HW.out⟩
        | 1, _ => exact ⟨a5, c5, M, hc' 1, sl_below s5 hBr, hc5, by omega, hMw.out⟩
      have hz4 : wr.heap.size < w4.heap.size := by rw [hw4]; simp
      rw [← hw4]
      have HB4 := Lib.hid hB4
      clear hw4 hB4 hBr hb s5 hMw hk hlt hsz
      generalize wr.heap.size = gB at *
      go_loopg [60] 2 (fun g s60 wx => ∃ j : Nat, j ≤ 2 ∧ s60 = .int .i64 j ∧ Below w4.heap.size w4 wx ∧ 2 - j = g)
      case atStart => exact ⟨0, by omega, rfl, Below.refl _ _, rfl⟩
      case round =>
        obtain ⟨j, hj, rfl, hby, rfl⟩ := hrel
        have hyz := hby.size
        by_cases hlt : j < 2
        · obtain ⟨ax, cx, X, hcx, hsx, hXc, hX, hXw⟩ := HC.out j hlt
          have hc1 := (hby.cell (p := ⟨gB, j, none⟩) hz4).trans hcx
          have HX := Lib.hid (sl_below hsx hby)
          have cF := code_fields ax cx X _ (by omega) HX.out hXw hXc
          rcases flds_inv (X.length + 1) [] 0 X hXw (by omega) (Nat.lt_succ_self _) with ⟨e0, jj, hf, he, -, hjj⟩ | ⟨G, hf, hG, hGv⟩
          · have hf' : flds X = ([], (jj : Int), e0) := hf
            rw [hf'] at cF
            have h3 : (e0 != 0) = true := by simpa using he
            have h4 : (e0 == 0) = false := by simpa using he
            have hj0 : (0 : Int) ≤ (jj : Int) := by omega
            have hj1 : jj < X.length := by omega
            have hj2 : (jj : Int) < (X.length : Int) := by omega
            clear hf hf' he hjj hsx hcx
            go_wp2_with fail
            refine cF.mono ?_
            rintro e w5 ⟨v5, ps, rfl, hps, hrow, hb5⟩
            have hpl : ps = [] := by simpa using hps
            subst hpl
            obtain ⟨a7, c7, rfl, -⟩ := hrow.form
            have hbl := bnext hby hb5
            clear cF hps hrow hb5
            go_wp2_with fail
            go_roundg (2 - (j + 1))
            case measure => omega
            case rel => exact ⟨j + 1, by omega, by go_num, hbl, rfl⟩
          · have hf' : flds X = (G, 0, 0) := hf
            rw [hf'] at cF
            clear hf hf' hsx hcx
            go_wp2_with fail
            refine cF.mono ?_
            rintro e w5 ⟨v5, ps, rfl, hps, hrow, hb5⟩
            simp only at hps
            have hGe : (ps.map Prod.fst).flatMap encF = X := by rw [hps]; exact hG
            have HV : Hid (∀ p, p ∈ ps → Vf p.1) := fun p hp => hGv p.1 (by rw [← hps]; exact List.mem_map_of_mem hp)
            have HE := Lib.hid hGe
            obtain ⟨a7, c7, rfl, -, hFs⟩ := hrow.fs
            have HF := Lib.hid hFs
            have hbl := bnext hby hb5
            have HX5 := Lib.hid (sl_below HX.out hb5)
            have hz5 : w.heap.size ≤ w5.heap.size := Nat.le_trans HB4.out.size hbl.size
            have hlp : ps.length ≤ 200 := by
              have h1 : ∀ (l : List Fld), 2 * l.length ≤ (l.flatMap encF).length := by
                intro l
                induction l with
                | nil => simp
                | cons f l ih =>
                  have := encF_pos f
                  rw [List.flatMap_cons, List.length_append, List.length_cons]
                  omega
              have h2 := h1 (ps.map Prod.fst)
              rw [hGe, List.length_map] at h2
              omega
            clear cF hps hrow hb5 hG hGv hGe hFs HX
            go_wp2_with fail
            go_loopg [13, 87] ps.length (fun g s13 s87 wx => ∃ i : Nat, i ≤ ps.length ∧ s87 = .int .i64 i ∧ Own wx w5.heap.size s13 (encT ps i) ∧ Below w5.heap.size w5 wx ∧ ps.length - i = g)
            case atStart => exact ⟨0, by omega, rfl, Own.nil _ _, Below.refl _ _, rfl⟩
            case round =>
              obtain ⟨i, hi, rfl, ho, hbz, rfl⟩ := hrel
              have hzz := hbz.size
              by_cases hlt2 : i < ps.length
              · obtain ⟨p, hp⟩ : ∃ p, ps[i]? = some p := ⟨_, List.getElem?_eq_getElem hlt2⟩
                have hv := HV.out p (List.mem_of_getElem? hp)
                obtain ⟨bx, off, ba, bc, rfl, -, hsb, hbx⟩ := HF.out i p hp
                have hle := encT_le ps i
                rw [HE.out] at hle
                have HS2 := Lib.hid (encT_succ ps i p hp)
                obtain ⟨x0, x1, x2, x3⟩ := hbx.below hbz
                have hsb2 := sl_below hsb hbz
                obtain ⟨am, cm, rfl, sm, -⟩ := ho.sl
                have cA := fun w hr hs => code_wappend am cm (encT ps i) p.1.num p.1.kind p.1.val ba bc p.1.bytes w (by omega) hv.2.2.2 hr hs hv.1 hv.2.1
                have hbox := box_new wr p.1.num p.1.kind p.1.val ba p.1.bytes.length bc
                have hbn := (Below.refl wr.heap.size wr).alloc (Nat.le_refl _) (.cells #[.int .i64 p.1.num, .int .i64 p.1.kind, .int .u64 p.1.val, .slice ba p.1.bytes.length bc] 25)
                have SM := Lib.hid (sl_below sm hbn)
                have SB := Lib.hid (sl_below hsb2 hbn)
                have HBZ := Lib.hid (hbz.trans (hbn.mono hzz))
                clear hbx hsb hsb2 sm ho hv hbn hbox hle
                go_wp2_with fail
                refine (cA _ SM.out SB.out).mono ?_
                rintro e w6 ⟨v6, rfl, ho6, hb6⟩
                have hO6 : Own w6 w5.heap.size v6 (encT ps (i + 1)) := by
                  rw [HS2.out]
                  exact ho6.base HBZ.out.size
                have hb7 := bnext HBZ.out hb6
                clear cA ho6 hb6
                go_wp2_with fail
                go_roundg (ps.length - (i + 1))
                case measure => omega
                case rel => exact ⟨i + 1, by omega, by go_num, hO6, hb7, rfl⟩
              · obtain rfl : i = ps.length := by omega
                rw [encT_all, HE.out] at ho
                obtain ⟨am, cm, rfl, sm, -⟩ := ho.sl
                have cQ := same_true am cm ax cx X wr sm (sl_below HX5.out hbz)
                clear ho sm
                go_wp2_with fail
                refine cQ.mono ?_
                rintro e w6 ⟨rfl, rfl⟩
                have hbl2 := hbl.trans (hbz.mono hbl.size)
                go_wp2_with fail
                go_roundg (2 - (j + 1))
                case measure => omega
                case rel => exact ⟨j + 1, by omega, by go_num, hbl2, rfl⟩
        · go_wp2_with fail
          refine (known_true _).mono ?_
          rintro e w5 ⟨rfl, hb5⟩
          go_wp2
          go_ret
          exact ⟨rfl, bnext (bnext HB4.out hby) hb5⟩
end Go.Proofs.Ytadngbpiepemjaa
