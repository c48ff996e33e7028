/-
  The walk over the statement that the fields of a message are read as they were written, where the fields and their bytes are at most 400.
  Conditions: as typed.
-/
import Derived.Test.YtadngbpiepemjaaE3
import Derived.Test.YtadngbpiepemjaaG9
namespace Go.Proofs.Ytadngbpiepemjaa
open Go.RowKit

/-- The bytes of a list of fields lie where they lay in the world w. -/
def BytS (w : World) (ps : List (Fld × Value)) : Prop := ∀ p, p ∈ ps → ∃ ba bc, p.2 = .slice ba p.1.bytes.length bc ∧ Sl w ba bc p.1.bytes
theorem rowS_fs {w : World} {B : Nat} {v : Value} {ps : List (Fld × Value)} (h : w.ownsRow B 25 4 v ps.length (row4 ps)) (hb : BytS w ps) : ∃ a c, v = .slice a ps.length c ∧ ps.length ≤ c ∧ Fs w a ps := by
  have hform : ∃ a c, v = .slice a ps.length c ∧ ps.length ≤ c := by
    rcases h.2 with ⟨rfl, h0⟩ | ⟨g, cap, cur, rfl, _, _, hcap, _⟩
    · exact ⟨none, 0, by rw [h0], by omega⟩
    · exact ⟨_, cap, rfl, hcap⟩
  obtain ⟨a, c, rfl, hc⟩ := hform
  refine ⟨a, c, rfl, hc, fun i p hi => ?_⟩
  have hlt : i < ps.length := (List.getElem?_eq_some_iff.1 hi).1
  obtain ⟨g, rfl, hg, hgl⟩ := own_at h (by omega)
  obtain ⟨ba, bc, hv, hs⟩ := hb p (List.mem_of_getElem? hi)
  refine ⟨g, 0, ba, bc, rfl, hv, hs, ?_, ?_, ?_, ?_⟩
  · rw [h.cellAt _ (by omega), show 0 + i * 4 = i * 4 + 0 by omega, row4_get ps i 0 p hi (by omega)]
    rfl
  · rw [h.cellAt _ (by omega), show 0 + i * 4 + 1 = i * 4 + 1 by omega, row4_get ps i 1 p hi (by omega)]
    rfl
  · rw [h.cellAt _ (by omega), show 0 + i * 4 + 2 = i * 4 + 2 by omega, row4_get ps i 2 p hi (by omega)]
    rfl
  · rw [h.cellAt _ (by omega), show 0 + i * 4 + 3 = i * 4 + 3 by omega, row4_get ps i 3 p hi (by omega)]
    simp only [cellsOf, List.getElem?_cons_succ, List.getElem?_cons_zero, hv]
theorem cells_one' (f : Fld) (a : Option Addr) (n c : Nat) : ∀ u ∈ cellsOf (f, .slice a n c), u.oneCell' = true := by
  intro u hu
  simp only [cellsOf, List.mem_cons, List.not_mem_nil, or_false] at hu
  rcases hu with rfl | rfl | rfl | rfl <;> rfl
theorem bytS_below {w w' : World} {ps : List (Fld × Value)} (h : BytS w ps) (hb : Below w.heap.size w w') : BytS w' ps := fun p hp => by
  obtain ⟨ba, bc, h1, h2⟩ := h p hp
  exact ⟨ba, bc, h1, sl_below h2 hb⟩
theorem bytS_snoc {w : World} {ps : List (Fld × Value)} {f : Fld} {a : Option Addr} {c : Nat} (h : BytS w ps) (hs : Sl w a c f.bytes) : BytS w (ps ++ [(f, .slice a f.bytes.length c)]) := fun p hp => by
  rcases List.mem_append.1 hp with hp | hp
  · exact h p hp
  · obtain rfl : p = _ := by simpa using hp
    exact ⟨a, c, rfl, hs⟩

set_option maxHeartbeats 4000000 in
set_option maxRecDepth 100000 in
theorem trips_core (a : Option Addr) (c : Nat) (ps : List (Fld × Value)) (w : World) (hF : Fs w a ps) (hP : ∀ p, p ∈ ps → W64 p.1.val ∧ ∀ x, x ∈ p.1.bytes → W8 x) (hbulk : bulkF ps ≤ 400) :
    Calls Try.prog 5 #[.slice a ps.length c] w fun e w' => e = .returned (.bool true) ∧ Below w.heap.size w w' := by
  have cB := big_any a c ps w hF (by omega)
  rw [show decide (400 < bulkF ps) = false from decide_eq_false (by omega)] at cB
  have HF := Lib.hid hF
  have HP := Lib.hid hP
  have HSs := Lib.hid (sum_take (ps.map fun p => p.1.bytes.length))
  have HSl := Lib.hid (sum_take_le (ps.map fun p => p.1.bytes.length))
  have hB : ps.length + (ps.map fun p => p.1.bytes.length).sum ≤ 400 := hbulk
  have HBk := Lib.hid hB
  have hpl : ps.length ≤ 400 := by omega
  obtain ⟨i0, hi, hz0, hz1, hz2⟩ := info_parts info25
  have HI := Lib.hid hi
  have HZ0 := Lib.hid hz0
  have HZ1 := Lib.hid hz1
  have HZ2 := Lib.hid hz2
  clear hi hz0 hz1 hz2 hF hP hB
  go_enter Try.func5, Try.ntmps5
  go_wp2_with fail
  refine cB.mono ?_
  rintro e w1 ⟨rfl, hb1⟩
  clear cB
  go_wp2_with fail
  go_loopg [3, 5, 21] ps.length (fun g s3 s5 s21 wx => ∃ (k : Nat) (qs : List (Fld × Value)), k ≤ ps.length ∧ s21 = .int .i64 k ∧ qs.length = k ∧ Own wx w.heap.size s3 ((qs.map Prod.fst).flatMap encF) ∧ wx.ownsRow w.heap.size 25 4 s5 qs.length (row4 qs) ∧
    Hid (BytS w qs) ∧ Hid (∀ q, q ∈ qs → Vf q.1) ∧ ((qs.map Prod.fst).flatMap encF).length ≤ 20 * k + ((ps.map fun p => p.1.bytes.length).take k).sum ∧ Below w.heap.size w wx ∧ ps.length - k = g)
  case atStart => exact ⟨0, [], by omega, rfl, rfl, Own.nil _ _, World.ownsRow_nil _ _ _ _, Lib.hid (fun p hp => by simp at hp), Lib.hid (fun p hp => by simp at hp), by simp, hb1, rfl⟩
  case round =>
    obtain ⟨k, qs, hk, rfl, hql, hom, how, hbs, hvs, hlen, hbx, rfl⟩ := hrel
    have hsz := hbx.size
    obtain ⟨am, cm, rfl, sm, hcm⟩ := hom.sl
    by_cases hlt : k < ps.length
    · obtain ⟨p, hp⟩ : ∃ p, ps[k]? = some p := ⟨_, List.getElem?_eq_getElem hlt⟩
      obtain ⟨hv, hwb⟩ := HP.out p (List.mem_of_getElem? hp)
      obtain ⟨bx, off, ba, bc, rfl, -, hsb, hbox⟩ := HF.out k p hp
      have h1 := HSs.out k (by rw [List.length_map]; exact hlt)
      have h2 := HSl.out (k + 1)
      rw [h1] at h2
      have hg : (ps.map fun p => p.1.bytes.length)[k]'(by rw [List.length_map]; exact hlt) = p.1.bytes.length := by
        rw [List.getElem_map]
        rw [List.getElem?_eq_getElem hlt] at hp
        rw [Option.some.inj hp]
      rw [hg] at h1 h2
      have H1 := Lib.hid h1
      have hbb := HBk.out
      have hS : ((ps.map fun p => p.1.bytes.length).take k).sum + p.1.bytes.length ≤ 400 := by omega
      obtain ⟨x0, x1, x2, x3⟩ := hbox.below hbx
      have hbA := hbx.alloc hsz (.cells #[.int .i64 p.1.num, .int .i64 p.1.kind, .int .u64 p.1.val, .slice ba p.1.bytes.length bc] 25)
      clear h1 h2 hg hbb hbox hcm
      go_wp2_with fail
      refine (near_zero p.1.num p.1.kind p.1.val ba p.1.bytes bc _).mono ?_
      rintro e w2 ⟨nu, ki, va, b2, B2, d2, rfl, hva, hB2, hvf, hn40, hb2⟩
      have hb3 := bnext hbA hb2
      have hbr2 : Below wr.heap.size wr w2 := bnext ((Below.refl _ wr).alloc (Nat.le_refl _) _) hb2
      have hvf2 : Vf ⟨nu, ki, va, B2⟩ := by
        refine ⟨hvf, ?_, ?_, ?_⟩
        · rcases hva with rfl | rfl
          · exact hv
          · exact ⟨Int.le_refl 0, by show (0 : Int) ≤ 18446744073709551615; omega⟩
        · rcases hB2 with ⟨rfl, rfl, rfl⟩ | ⟨rfl, rfl, rfl⟩
          · exact hwb
          · simp
        · rcases hB2 with ⟨rfl, rfl, rfl⟩ | ⟨rfl, rfl, rfl⟩
          · show p.1.bytes.length ≤ _
            omega
          · simp
      have hsl2 : Sl w b2 d2 B2 := by
        rcases hB2 with ⟨rfl, rfl, rfl⟩ | ⟨rfl, rfl, rfl⟩
        · exact hsb
        · exact .inl ⟨rfl, rfl, rfl⟩
      have hBl : B2.length ≤ p.1.bytes.length := by
        rcases hB2 with ⟨rfl, rfl, rfl⟩ | ⟨rfl, rfl, rfl⟩
        · exact Nat.le_refl _
        · simp
      have hS2 : ((ps.map fun p => p.1.bytes.length).take k).sum + B2.length ≤ ((ps.map fun p => p.1.bytes.length).take (k + 1)).sum := by rw [H1.out]; omega
      have hB400 : B2.length ≤ 400 := by omega
      have hM0 : ((ps.map fun p => p.1.bytes.length).take k).sum ≤ 400 := by omega
      generalize hT2 : ((ps.map fun p => p.1.bytes.length).take (k + 1)).sum = T2 at *
      have HT2 := Lib.hid hT2
      clear hT2
      generalize ((ps.map fun p => p.1.bytes.length).take k).sum = T1 at *
      clear H1 hS hv hwb hsb x0 x1 x2 x3 hbA hva hB2 hBl hp hb2 hn40
      have hEl := encF_le ⟨nu, ki, va, B2⟩
      have HM : Hid (((qs ++ [((⟨nu, ki, va, B2⟩ : Fld), Value.slice b2 B2.length d2)]).map Prod.fst).flatMap encF = (qs.map Prod.fst).flatMap encF ++ encF ⟨nu, ki, va, B2⟩) := Lib.hid (by
        rw [List.map_append, List.flatMap_append]
        simp)
      have HV2 : Hid (∀ q, q ∈ qs ++ [((⟨nu, ki, va, B2⟩ : Fld), Value.slice b2 B2.length d2)] → Vf q.1) := fun q hq => by
        rcases List.mem_append.1 hq with hq | hq
        · exact hvs.out q hq
        · obtain rfl : q = _ := by simpa using hq
          exact hvf2
      have HB2 := Lib.hid (bytS_snoc (f := ⟨nu, ki, va, B2⟩) hbs.out hsl2)
      have cA := fun w hr hs => code_wappend am cm ((qs.map Prod.fst).flatMap encF) nu ki va b2 d2 B2 w (by omega) (by omega) hr hs hvf2.1 hvf2.2.1
      have cS := fun w => code_size nu ki va b2 d2 B2 w (by omega) hvf2.1 hvf2.2.1
      have hEe : encF ⟨nu, ki, va, B2⟩ = encI nu ki va B2 := rfl
      rw [hEe] at hEl HM
      clear hvf2 hvf hvs hbs hEe
      generalize (qs.map Prod.fst).flatMap encF = M at *
      generalize encI nu ki va B2 = E at *
      have hEl' : E.length ≤ 420 := by simp only at hEl; omega
      have hN : (M ++ E).length = M.length + E.length := List.length_append
      have hlen2 : (M ++ E).length ≤ 20 * (k + 1) + T2 := by simp only at hEl; omega
      have hne : (((M ++ E).length : Int) != (M.length : Int) + (E.length : Int)) = false := by rw [bne_eq_false_iff_eq]; omega
      have hML : M.length ≤ 8400 := by omega
      generalize M ++ E = N at *
      have s2 := sl_below sm hbr2
      have sb2 := sl_below hsl2 hb3
      have how2 := Lib.hid (own_below how hbr2)
      have hz2 := hb3.size
      clear hEl hN how hom sm hbr2
      have hbox := box_new w2 nu ki va b2 B2.length d2
      have hbn := (Below.refl w2.heap.size w2).alloc (Nat.le_refl _) (.cells #[.int .i64 nu, .int .i64 ki, .int .u64 va, .slice b2 B2.length d2] 25)
      have SM := Lib.hid (sl_below s2 hbn)
      have SB := Lib.hid (sl_below sb2 hbn)
      have HBN := Lib.hid (hb3.alloc hz2 (.cells #[.int .i64 nu, .int .i64 ki, .int .u64 va, .slice b2 B2.length d2] 25))
      have HOW3 := Lib.hid (World.ownsRow.alloc how2.out (.cells #[.int .i64 nu, .int .i64 ki, .int .u64 va, .slice b2 B2.length d2] 25))
      clear s2 sb2 hbn how2
      go_wp2_with fail
      refine (cA _ SM.out SB.out).mono ?_
      rintro e w4 ⟨v4, rfl, ho4, hb4⟩
      have K4 := hbox.below hb4
      have HO4 := Lib.hid (own_below HOW3.out hb4)
      have hb5 := bnext HBN.out hb4
      have hO4 := ho4.base HBN.out.size
      obtain ⟨a4, c4, rfl, -, -⟩ := hO4.sl
      have HN4 := Lib.hid hO4
      obtain ⟨y0, y1, y2, y3⟩ := K4
      have y1' : w4.cell? ⟨w2.heap.size, 1, none⟩ = some (.int .i64 ki) := y1
      have y2' : w4.cell? ⟨w2.heap.size, 2, none⟩ = some (.int .u64 va) := y2
      have y3' : w4.cell? ⟨w2.heap.size, 3, none⟩ = some (.slice b2 B2.length d2) := y3
      have K4 := Lib.hid (show Box w4 w2.heap.size 0 nu ki va b2 B2.length d2 from ⟨y0, y1, y2, y3⟩)
      clear cA SM SB HBN HOW3 hbox ho4 hO4 hb4 y1 y2 y3
      go_wp2_with fail
      refine (cS _).mono ?_
      rintro e w5 ⟨rfl, hb6⟩
      obtain ⟨z0, z1, z2, z3⟩ := K4.out.below hb6
      have z1' : w5.cell? ⟨w2.heap.size, 1, none⟩ = some (.int .i64 ki) := z1
      have z2' : w5.cell? ⟨w2.heap.size, 2, none⟩ = some (.int .u64 va) := z2
      have z3' : w5.cell? ⟨w2.heap.size, 3, none⟩ = some (.slice b2 B2.length d2) := z3
      have HO5 := Lib.hid (own_below HO4.out hb6)
      have HN5 := Lib.hid (HN4.out.below hb6)
      have hb7 := bnext hb5 hb6
      have hz7 := hb7.size
      clear cS y0 y1' y2' y3' K4 HO4 HN4 hb6 z1 z2 z3 hb5
      go_wp2_with (at_builtin; refine wpList_append_own _ rfl _ _ 28 rfl w.heap.size 25 i0 (.agg #[.int .i64 0, .int .i64 0, .int .u64 0, .slice none 0 0]) 4 48 Try.underlying28 HI.out HZ0.out HZ1.out HZ2.out rfl (by decide) _ qs.length (row4 qs) rfl (World.ownsRow.alloc HO5.out _) ⟨w5.heap.size, 0, none⟩ 1 1 (cellsOf (⟨nu, ki, va, B2⟩, .slice b2 B2.length d2)) rfl rfl (cells_of_new _ (⟨nu, ki, va, B2⟩, .slice b2 B2.length d2) _ rfl) (cells_one' _ _ _ _) ?c1 ?c2 ?c3 ?_)
      case c1 => unfold maxLen; omega
      case c2 => omega
      case c3 => have := (hb7.alloc hz7 (.cells #[.int .i64 nu, .int .i64 ki, .int .u64 va, .slice b2 B2.length d2] 25)).size; exact this
      intro v6 w6 how6 hgrow _
      have hb8 : Below w.heap.size w w6 := (hb7.alloc hz7 (.cells #[.int .i64 nu, .int .i64 ki, .int .u64 va, .slice b2 B2.length d2] 25)).grown hgrow ((hb7.alloc hz7 (.cells #[.int .i64 nu, .int .i64 ki, .int .u64 va, .slice b2 B2.length d2] 25)).size) (fun j hj => (HO5.out.lt j hj).1)
      have HN6 : Own w6 w.heap.size (.slice a4 N.length c4) N := (World.ownsRow.alloc HN5.out _).kept hgrow (own_ne HN5.out HO5.out (by decide))
      have HN7 : Own w6 w.heap.size (.slice a4 N.length c4) (((qs ++ [((⟨nu, ki, va, B2⟩ : Fld), Value.slice b2 B2.length d2)]).map Prod.fst).flatMap encF) := by rw [HM.out]; exact HN6
      have hlen3 : (((qs ++ [((⟨nu, ki, va, B2⟩ : Fld), Value.slice b2 B2.length d2)]).map Prod.fst).flatMap encF).length ≤ 20 * (k + 1) + T2 := by rw [HM.out]; exact hlen2
      have hql2 : (qs ++ [((⟨nu, ki, va, B2⟩ : Fld), Value.slice b2 B2.length d2)]).length = k + 1 := by rw [List.length_append, hql]; rfl
      have how7 : w6.ownsRow w.heap.size 25 4 v6 (qs ++ [((⟨nu, ki, va, B2⟩ : Fld), Value.slice b2 B2.length d2)]).length (row4 (qs ++ [((⟨nu, ki, va, B2⟩ : Fld), Value.slice b2 B2.length d2)])) := by
        rw [row4_snoc, hql2]
        exact how6
      have HQ := Lib.hid hql2
      have HH7 := Lib.hid how7
      have HN8 := Lib.hid HN7
      clear HN5 HO5 HN6 HN7 how6 how7 hgrow HM hql2 hql z0 z1' z2' z3'
      go_wp2_with fail
      go_roundg (ps.length - (k + 1))
      case measure => omega
      case rel => exact ⟨k + 1, _, by omega, by go_num, HQ.out, HN8.out, HH7.out, HB2, HV2, by rw [HT2.out]; exact hlen3, hb8, rfl⟩
    · obtain rfl : k = ps.length := by omega
      have hT := HSl.out ps.length
      have hbb := HBk.out
      have hM2 : ((qs.map Prod.fst).flatMap encF).length ≤ 8400 := by omega
      have hMw : ∀ x, x ∈ (qs.map Prod.fst).flatMap encF → W8 x := by
        intro x hx
        obtain ⟨f, hf, hxf⟩ := List.mem_flatMap.1 hx
        obtain ⟨q, hq, rfl⟩ := List.mem_map.1 hf
        exact encF_bytes q.1 (hvs.out q hq) x hxf
      have hfl : flds ((qs.map Prod.fst).flatMap encF) = (qs.map Prod.fst, 0, 0) := by
        have := flds_enc (qs.map Prod.fst) (((qs.map Prod.fst).flatMap encF).length + 1) [] 0 (fun f hf => by obtain ⟨q, hq, rfl⟩ := List.mem_map.1 hf; exact hvs.out q hq) (by rw [List.length_map, List.length_nil]; omega) (Nat.lt_succ_self _)
        exact this
      have cF := code_fields am cm ((qs.map Prod.fst).flatMap encF) wr (by omega) sm hMw hcm
      rw [hfl] at cF
      have HSM := Lib.hid sm
      have HOW := Lib.hid how
      have HQL := Lib.hid hql
      have hq400 : qs.length ≤ 400 := by omega
      clear hT hbb hMw hfl hlen hom sm how hcm hql hk hlt
      generalize hMM : (qs.map Prod.fst).flatMap encF = M at *
      have HMM := Lib.hid hMM
      clear hMM
      go_wp2_with fail
      refine cF.mono ?_
      rintro e w5 ⟨v5, rs, rfl, hrs, hrow, hb5⟩
      simp only at hrs
      obtain ⟨ar, cr, rfl, -, hFr⟩ := hrow.fs
      have hbl := bnext hbx hb5
      obtain ⟨aw, cw, rfl, -, hFq⟩ := rowS_fs (own_below HOW.out hb5) (bytS_below hbs.out hbl)
      have HFr := Lib.hid hFr
      have HFq := Lib.hid hFq
      have HRS := Lib.hid hrs
      have hrl : rs.length = qs.length := by have := congrArg List.length hrs; simpa using this
      have HVr : Hid (∀ r, r ∈ rs → Vf r.1) := fun r hr => by
        have : r.1 ∈ qs.map Prod.fst := by rw [← hrs]; exact List.mem_map_of_mem hr
        obtain ⟨q, hq, he⟩ := List.mem_map.1 this
        rw [← he]
        exact hvs.out q hq
      have HEr : Hid ((rs.map Prod.fst).flatMap encF = M) := Lib.hid (by rw [hrs]; exact HMM.out)
      have HX5 := Lib.hid (sl_below HSM.out hb5)
      have hr400 : rs.length ≤ 400 := by omega
      have hsz5 := hbl.size
      have HRL := Lib.hid hrl
      clear cF hrs hrow hFr hFq hb5 HSM HOW hbs hvs hrl
      go_wp2_with fail
      go_loopg [4, 59] rs.length (fun g s4 s59 wx => ∃ i : Nat, i ≤ rs.length ∧ s59 = .int .i64 i ∧ Own wx w5.heap.size s4 (encT rs i) ∧ Below w5.heap.size w5 wx ∧ rs.length - i = g)
      case atStart => exact ⟨0, by omega, rfl, Own.nil _ _, Below.refl _ _, rfl⟩
      case round =>
        obtain ⟨i, hi, rfl, ho, hbz, rfl⟩ := hrel
        have hzz := hbz.size
        by_cases hlt2 : i < rs.length
        · obtain ⟨p, hp⟩ : ∃ p, rs[i]? = some p := ⟨_, List.getElem?_eq_getElem hlt2⟩
          have hv := HVr.out p (List.mem_of_getElem? hp)
          obtain ⟨bx, off, ba, bc, rfl, -, hsb, hbxx⟩ := HFr.out i p hp
          have hle := encT_le rs i
          rw [HEr.out] at hle
          have HS2 := Lib.hid (encT_succ rs i p hp)
          obtain ⟨x0, x1, x2, x3⟩ := hbxx.below hbz
          have hsb2 := sl_below hsb hbz
          obtain ⟨an, cn, rfl, sn, -⟩ := ho.sl
          have cA := fun w hr hs => code_wappend an cn (encT rs i) p.1.num p.1.kind p.1.val ba bc p.1.bytes w (by omega) hv.2.2.2 hr hs hv.1 hv.2.1
          have hbn := (Below.refl wr.heap.size wr).alloc (Nat.le_refl _) (.cells #[.int .i64 p.1.num, .int .i64 p.1.kind, .int .u64 p.1.val, .slice ba p.1.bytes.length bc] 25)
          have SM := Lib.hid (sl_below sn hbn)
          have SB := Lib.hid (sl_below hsb2 hbn)
          have HBZ := Lib.hid (hbz.trans (hbn.mono hzz))
          clear hbxx hsb hsb2 sn ho hv hbn hle
          go_wp2_with fail
          refine (cA _ SM.out SB.out).mono ?_
          rintro e w6 ⟨v6, rfl, ho6, hb6⟩
          have hO6 : Own w6 w5.heap.size v6 (encT rs (i + 1)) := by
            rw [HS2.out]
            exact ho6.base HBZ.out.size
          have hb7 := bnext HBZ.out hb6
          clear cA ho6 hb6
          go_wp2_with fail
          go_roundg (rs.length - (i + 1))
          case measure => omega
          case rel => exact ⟨i + 1, by omega, by go_num, hO6, hb7, rfl⟩
        · obtain rfl : i = rs.length := by omega
          rw [encT_all, HEr.out] at ho
          obtain ⟨an, cn, rfl, sn, -⟩ := ho.sl
          have cQ := same_true an cn am cm M
          have cG := sameFields_true ar cr rs aw cw qs wr (HFr.out.below hbz) (HFq.out.below hbz) HRS.out (by omega)
          have SN := Lib.hid sn
          have SX := Lib.hid (sl_below HX5.out hbz)
          have hbl2 := hbl.trans (hbz.mono hbl.size)
          clear ho sn
          go_wp2_with fail
          refine cG.mono ?_
          rintro e w6 ⟨rfl, hb6⟩
          have SN6 := sl_below SN.out hb6
          have SX6 := sl_below SX.out hb6
          have hbl3 := bnext hbl2 hb6
          clear cG hb6 hbl2
          go_wp2_with fail
          refine (cQ _ SN6 SX6).mono ?_
          rintro e w7 ⟨rfl, rfl⟩
          clear cQ SN6 SX6
          go_wp2_with fail
          refine (known_true _).mono ?_
          rintro e w7 ⟨rfl, hb7⟩
          go_wp2
          go_ret
          exact ⟨rfl, bnext hbl3 hb7⟩
end Go.Proofs.Ytadngbpiepemjaa
