/-
  The contract of the reference's take: the next slot.
-/
import Derived.Test.YtefinpapkjgpoaaLG
namespace Go.Proofs.Ytefinpapkjgpoaa
open Go.RowKit
set_option linter.unusedSimpArgs false
set_option linter.unusedVariables false

/-- A row is the old one, or lies in a new block. -/
def Fr (w w' : World) (a a2 : Option Addr) : Prop := a2 = a ∨ ∀ x, a2 = some x → w.heap.size ≤ x.block ∧ x.block < w'.heap.size
theorem Fr.wide {w v w' v' : World} {a a2 : Option Addr} (h : Fr w w' a a2) (h1 : v.heap.size ≤ w.heap.size) (h2 : w'.heap.size ≤ v'.heap.size) : Fr v v' a a2 := h.imp id fun h x hx => ⟨Nat.le_trans h1 (h x hx).1, Nat.lt_of_lt_of_le (h x hx).2 h2⟩
theorem own_fr {w V : World} {B e s n c : Nat} {a a2 : Option Addr} {xs : List Value} (h : V.ownsRow B e s (.slice a2 n c) n xs) (hB : w.heap.size ≤ B) : Fr w V a a2 := .inr fun x hx => by
  have := h.lt x.block (by rw [hx]; rfl)
  omega
def zl : Array Value := #[.slice none 0 0, .slice none 0 0, .int .i64 0]
theorem sub_one {ρ : Operand → Value} {o : Oper} {x : Operand} (ho : o.op = .binOp .sub 3 x (.const (.int .i64 1)) 3) (m : Nat) (hm : m ≤ 1000000) (h0 : 0 < m) (hx : ρ x = .int .i64 m) (w : World) (hρ : ρ (.const (.int .i64 1)) = .int .i64 1 := by rfl) : (execOp ρ o).run Try.prog w = .ok (.value (.int .i64 (m - 1 : Nat))) w := by
  unfold execOp
  simp only [ho, hx, hρ]
  simp [go_sem]
  rw [IntKind.wrap_i64]
  omega
theorem one_lv (a b c d : Nat) (x y : Option Addr) (u : Int) : (#[Value.slice x a b, .slice y c d, .int .i64 u] : Array Value).all (·.oneCell') = true := by simp [Value.oneCell']
/-- The two blocks of take: the list that it got, and the one that it returns (E: how it reads at first, R: at the end, once bs). -/
structure T2 (w : World) (C R : Array Value) (bs : Bool) (V : World) : Prop where
  bel : Below w.heap.size w V
  siz : w.heap.size + 2 ≤ V.heap.size
  bx : Bx V w.heap.size C 28
  z : Bx V (w.heap.size + 1) (cond bs R zl) 28
theorem T2.below {w V V2 : World} {C R : Array Value} {bs : Bool} (h : T2 w C R bs V) (hb : Below V.heap.size V V2) : T2 w C R bs V2 :=
  ⟨h.bel.trans (hb.mono h.bel.size), Nat.le_trans h.siz hb.size, h.bx.below h.bx.lt hb, h.z.below h.z.lt hb⟩
theorem T2.start (w : World) (C R : Array Value) : T2 w C R false ((w.alloc (.cells C 28)).alloc (.cells zl 28)) := by
  have h1 : Bx (w.alloc (.cells C 28)) w.heap.size C 28 := heap_alloc_last w _
  have h2 := heap_alloc_last (w.alloc (.cells C 28)) (.cells zl 28)
  have hs : (w.alloc (.cells C 28)).heap.size = w.heap.size + 1 := by simp
  rw [hs] at h2
  exact ⟨((Below.refl _ w).alloc (by simp) _).alloc (by simp) _, by simp, h1.below (by omega) ((Below.refl (w.heap.size + 1) (w.alloc (.cells C 28))).alloc (by simp) _), h2⟩
theorem T2.stored {w V : World} {C R : Array Value} (h : T2 w C R false V) : T2 w C R true (V.setRow (w.heap.size + 1) R) :=
  have hb : But (w.heap.size + 1) V (V.setRow (w.heap.size + 1) R) := But.setRow V R
  ⟨h.bel.trans (hb.below (by omega)), Nat.le_trans h.siz hb.1.size, h.bx.but hb (by omega), h.z.set⟩
theorem T2.same {w V : World} {C R R2 : Array Value} (h : T2 w C R false V) : T2 w C R2 false V := ⟨h.bel, h.siz, h.bx, h.z⟩
theorem results_lv {fn : Func} {tmps : Array Value} {w : World} {p q g : Nat} {v : Value} {cs : Array Value} (hr : fn.results = #[.cell p 28, .tmp q]) (h2 : tmps.getD p undef = .pointer (some ⟨g, 0, none⟩)) (h3 : tmps.getD q undef = v)
    (hA : w.heap[g]? = some (.cells cs 28 (0, 0))) (hi : (Try.prog.info? 28).map (·.size) = some cs.size) : (results fn tmps).run Try.prog w = .ok (.tuple #[.agg cs, v]) w := by
  have hl := run_loadVar_row (P := Try.prog) w g 28 28 cs (0, 0) _ hA Try.underlying28 rfl (by rw [hi])
  unfold results
  rw [hr]
  have h2' : tmps[p]?.getD undef = .pointer (some ⟨g, 0, none⟩) := by simpa using h2
  have h3' : tmps[q]?.getD undef = v := by simpa using h3
  simp [h2', h3', asAddr, hl, Result.andThen]
/-- What the region keeps that gives a freed slot again. -/
structure TF (w : World) (C : Array Value) (F : List Int) (ea : Option Addr) (en ec U : Nat) (b2 b8 b11 b18 : Bool) (x y : Value) (V : World) : Prop where
  t : T2 w C #[.slice ea en ec, y, .int .i64 U] b18 V
  nil : b2 = true → b8 = false → V.ownsRow (w.heap.size + 2) 3 1 x 0 []
  app : b8 = true → V.ownsRow (w.heap.size + 2) 3 1 y (F.length - 1) (icells (F.take (F.length - 1)))
  s11 : b11 = true → b8 = true
  s18 : b18 = true → b11 = true
section
variable {w V V2 : World} {C : Array Value} {F : List Int} {ea : Option Addr} {en ec U : Nat} {b2 b8 b11 b18 : Bool} {x y v : Value}
theorem TF.made (h : TF w C F ea en ec U b2 b8 b11 b18 x y V) : TF w C F ea en ec U true b8 b11 b18 (.slice (some ⟨V.heap.size, 0, none⟩) 0 0) y (V.alloc (.cells #[] 3)) :=
  have hb : Below V.heap.size V (V.alloc (.cells #[] 3)) := (Below.refl _ V).alloc (Nat.le_refl _) _
  { t := h.t.below hb, nil := fun _ _ => own_base (own_nil V 3 1) h.t.siz, app := fun h1 => own_below (h.app h1) hb, s11 := h.s11, s18 := h.s18 }
theorem TF.done (h : TF w C F ea en ec U true false false false x y V) (hO : V2.ownsRow (w.heap.size + 2) 3 1 v (F.length - 1) (icells (F.take (F.length - 1)))) (hb : Below (w.heap.size + 2) V V2) : TF w C F ea en ec U true true false false x v V2 :=
  { t := ⟨h.t.bel.trans (hb.mono (by omega)), Nat.le_trans h.t.siz hb.size, h.t.bx.below (by omega) hb, h.t.z.below (by omega) hb⟩, nil := fun _ h2 => (by cases h2), app := fun _ => hO, s11 := fun h => (by cases h), s18 := fun h => (by cases h) }
theorem TF.built (h : TF w C F ea en ec U b2 true false b18 x y V) : TF w C F ea en ec U b2 true true b18 x y V := { h with s11 := fun _ => rfl, s18 := fun _ => rfl }
theorem TF.stored (h : TF w C F ea en ec U b2 true true false x y V) : TF w C F ea en ec U b2 true true true x y (V.setRow (w.heap.size + 1) #[.slice ea en ec, y, .int .i64 U]) :=
  { t := h.t.stored, nil := fun _ h2 => (by cases h2), app := fun h1 => own_but (h.app h1) (But.setRow V _) (by omega), s11 := fun _ => rfl, s18 := fun _ => rfl }
end

set_option maxRecDepth 100000 in
set_option maxHeartbeats 2000000 in
theorem ref_take (m : LM) (ea fa : Option Addr) (ec fc : Nat) (w : World) (h : LV w ea fa ec fc m) (hu : m.U + 1 ≤ 1000) :
    Calls Try.prog 39 #[.agg (lv ea fa ec fc m)] w fun e w' => ∃ fa2 fc2, e = .returned (.tuple #[.agg (lv ea fa2 ec fc2 (takeM m).1), .int .i64 (takeM m).2]) ∧ LV w' ea fa2 ec fc2 (takeM m).1 ∧ Below w.heap.size w w' ∧ Fr w w' fa fa2 := by
  obtain ⟨E, F, U⟩ := m
  obtain ⟨he, hec, hf, hfc, hen, hfn, hun⟩ := h
  simp only at he hec hf hfc hen hfn hun hu
  unfold lv
  simp only
  by_cases h0 : F.length = 0
  · have hF0 : F = [] := List.eq_nil_of_length_eq_zero h0
    subst hF0
    have hT : takeM ⟨E, [], U⟩ = (⟨E, [], U + 1⟩, (U : Int)) := by simp [takeM]
    rw [hT]
    simp only
    have HE := Lib.hid he
    generalize hen2 : E.length = en at *
    have HN := Lib.hid hen2
    obtain ⟨fn, hfn0⟩ : ∃ fn, fn = List.length ([] : List Int) := ⟨_, rfl⟩
    rw [← hfn0]
    have HFN : Hid (fn = 0) := Lib.hid hfn0
    have hd : decide ((0 : Int) < (fn : Int)) = false := decide_eq_false (by rw [hfn0]; simp)
    have hd2 : decide (0 < fn) = false := decide_eq_false (by rw [hfn0]; simp)
    have h0 := (T2.start w #[.slice ea en ec, .slice fa fn fc, .int .i64 U] #[.slice ea en ec, .slice fa fn fc, .int .i64 (U + 1 : Nat)])
    have HEC := Lib.hid hec
    have HFC := Lib.hid hfc
    clear he hf hT hen2 hfc hec hfn0 hfn
    go_enter Try.func39, Try.ntmps39
    go_upto_region 1 with fail
    change Code.wp _ _ _ _ ((w.alloc (.cells #[.slice ea en ec, .slice fa fn fc, .int .i64 U] 28)).alloc (.cells zl 28))
    generalize ((w.alloc (.cells #[.slice ea en ec, .slice fa fn fc, .int .i64 U] 28)).alloc (.cells zl 28)) = W at *
    apply wp_region_lit
    refine gw_val (by kernel_rfl) (some 5) rfl (.pointer (some ⟨w.heap.size, 1, none⟩)) (by kernel_rfl) ?_
    simp only [Act.put, List.setIfInBounds_toArray, List.set_cons_succ, List.set_cons_zero]
    refine gw_load (by kernel_rfl) (some 6) rfl 22 (.tmp 5) rfl ⟨w.heap.size, 1, none⟩ (.slice fa fn fc) (by kernel_rfl) (h0.bx.load rfl (by kernel_rfl)) ?_
    simp only [Act.put, List.setIfInBounds_toArray, List.set_cons_succ, List.set_cons_zero]
    refine gw_val (by kernel_rfl) (some 7) rfl (.int .i64 fn) (by kernel_rfl) ?_
    simp only [Act.put, List.setIfInBounds_toArray, List.set_cons_succ, List.set_cons_zero]
    refine gw_val (by kernel_rfl) (some 4) rfl (.int .i64 fn) (by kernel_rfl) ?_
    simp only [Act.put, List.setIfInBounds_toArray, List.set_cons_succ, List.set_cons_zero]
    apply wpList_nil
    go_upto_region 4 with fail
    have h0 := h0.below (Below.refl _ W).drew
    refine wp_region_inv (fun listed act9 V => ∃ b0 b1 b2 b3 b4 b5 b6 b7 b8 b9 b10 b11 : Bool, listed = #[b0, b1, b2, b3, b4, b5, b6, b7, b8, b9, b10, b11] ∧ act9 = { tmps := #[.agg #[.slice ea en ec, .slice fa fn fc, .int .i64 U], .pointer (some ⟨w.heap.size, 0, none⟩), .pointer (some ⟨w.heap.size + 1, 0, none⟩), (cond b11 (.int .i64 U) (.int .i64 0)), .int .i64 fn, .pointer (some ⟨w.heap.size, 1, none⟩), .slice fa fn fc, .int .i64 fn, .int .i64 fn, .bool false, undef, undef, undef, undef, undef, undef, undef, undef, undef, undef, undef, undef, undef, undef, undef, undef, undef, undef, (cond b0 (.pointer (some ⟨w.heap.size, 0, none⟩)) undef), (cond b1 (.slice ea en ec) undef), (cond b2 (.pointer (some ⟨w.heap.size, 1, none⟩)) undef), (cond b3 (.slice fa fn fc) undef), (cond b4 (.pointer (some ⟨w.heap.size, 2, none⟩)) undef), (cond b5 (.int .i64 U) undef), (cond b6 (.int .i64 (U + 1 : Nat)) undef), (cond b7 (.agg #[.slice ea en ec, .slice fa fn fc, .int .i64 (U + 1 : Nat)]) undef), (cond b8 (.pointer (some ⟨w.heap.size, 2, none⟩)) undef), (cond b9 (.int .i64 U) undef)], defers := [] } ∧ T2 w #[.slice ea en ec, .slice fa fn fc, .int .i64 U] #[.slice ea en ec, .slice fa fn fc, .int .i64 (U + 1 : Nat)] b10 V) (by kernel_rfl) (by kernel_rfl) ?_ ?_ ?_
    · exact ⟨false, false, false, false, false, false, false, false, false, false, false, false, rfl, rfl, h0⟩
    · intro i9 listed act9 V hi hr hJ
      obtain ⟨b0, b1, b2, b3, b4, b5, b6, b7, b8, b9, b10, b11, rfl, rfl, hF⟩ := hJ
      have hi2 : i9 < 12 := hi
      have hi3 : i9 = 0 ∨ i9 = 1 ∨ i9 = 2 ∨ i9 = 3 ∨ i9 = 4 ∨ i9 = 5 ∨ i9 = 6 ∨ i9 = 7 ∨ i9 = 8 ∨ i9 = 9 ∨ i9 = 10 ∨ i9 = 11 := by omega
      rcases hi3 with rfl | rfl | rfl | rfl | rfl | rfl | rfl | rfl | rfl | rfl | rfl | rfl
      · obtain rfl : b0 = false := ready_self hr
        refine st_val rfl (by kernel_rfl) (some 28) rfl (.pointer (some ⟨w.heap.size, 0, none⟩)) V (by kernel_rfl) ?_
        exact ⟨true, b1, b2, b3, b4, b5, b6, b7, b8, b9, b10, b11, rfl, rfl, hF⟩
      · obtain rfl : b1 = false := ready_self hr
        obtain rfl : b0 = true := ready_dep hr 0 (by kernel_rfl)
        refine st_load rfl (by kernel_rfl) (some 29) rfl 26 (.tmp 28) rfl ⟨w.heap.size, 0, none⟩ (.slice ea en ec) (by kernel_rfl) (hF.bx.load rfl (by kernel_rfl)) ?_
        exact ⟨true, true, b2, b3, b4, b5, b6, b7, b8, b9, b10, b11, rfl, rfl, hF⟩
      · obtain rfl : b2 = false := ready_self hr
        refine st_val rfl (by kernel_rfl) (some 30) rfl (.pointer (some ⟨w.heap.size, 1, none⟩)) V (by kernel_rfl) ?_
        exact ⟨b0, b1, true, b3, b4, b5, b6, b7, b8, b9, b10, b11, rfl, rfl, hF⟩
      · obtain rfl : b3 = false := ready_self hr
        obtain rfl : b2 = true := ready_dep hr 2 (by kernel_rfl)
        refine st_load rfl (by kernel_rfl) (some 31) rfl 22 (.tmp 30) rfl ⟨w.heap.size, 1, none⟩ (.slice fa fn fc) (by kernel_rfl) (hF.bx.load rfl (by kernel_rfl)) ?_
        exact ⟨b0, b1, true, true, b4, b5, b6, b7, b8, b9, b10, b11, rfl, rfl, hF⟩
      · obtain rfl : b4 = false := ready_self hr
        refine st_val rfl (by kernel_rfl) (some 32) rfl (.pointer (some ⟨w.heap.size, 2, none⟩)) V (by kernel_rfl) ?_
        exact ⟨b0, b1, b2, b3, true, b5, b6, b7, b8, b9, b10, b11, rfl, rfl, hF⟩
      · obtain rfl : b5 = false := ready_self hr
        obtain rfl : b4 = true := ready_dep hr 4 (by kernel_rfl)
        refine st_load rfl (by kernel_rfl) (some 33) rfl 3 (.tmp 32) rfl ⟨w.heap.size, 2, none⟩ (.int .i64 U) (by kernel_rfl) (hF.bx.load rfl (by kernel_rfl)) ?_
        exact ⟨b0, b1, b2, b3, true, true, b6, b7, b8, b9, b10, b11, rfl, rfl, hF⟩
      · obtain rfl : b6 = false := ready_self hr
        obtain rfl : b5 = true := ready_dep hr 5 (by kernel_rfl)
        refine st_val rfl (by kernel_rfl) (some 34) rfl (.int .i64 (U + 1 : Nat)) V (add_one rfl U (by omega) (by kernel_rfl) V) ?_
        exact ⟨b0, b1, b2, b3, b4, true, true, b7, b8, b9, b10, b11, rfl, rfl, hF⟩
      · obtain rfl : b7 = false := ready_self hr
        obtain rfl : b1 = true := ready_dep hr 1 (by kernel_rfl)
        obtain rfl : b3 = true := ready_dep hr 3 (by kernel_rfl)
        obtain rfl : b6 = true := ready_dep hr 6 (by kernel_rfl)
        refine st_val rfl (by kernel_rfl) (some 35) rfl (.agg #[.slice ea en ec, .slice fa fn fc, .int .i64 (U + 1 : Nat)]) V (by kernel_rfl) ?_
        exact ⟨b0, true, b2, true, b4, b5, true, true, b8, b9, b10, b11, rfl, rfl, hF⟩
      · obtain rfl : b8 = false := ready_self hr
        refine st_val rfl (by kernel_rfl) (some 36) rfl (.pointer (some ⟨w.heap.size, 2, none⟩)) V (by kernel_rfl) ?_
        exact ⟨b0, b1, b2, b3, b4, b5, b6, b7, true, b9, b10, b11, rfl, rfl, hF⟩
      · obtain rfl : b9 = false := ready_self hr
        obtain rfl : b8 = true := ready_dep hr 8 (by kernel_rfl)
        refine st_load rfl (by kernel_rfl) (some 37) rfl 3 (.tmp 36) rfl ⟨w.heap.size, 2, none⟩ (.int .i64 U) (by kernel_rfl) (hF.bx.load rfl (by kernel_rfl)) ?_
        exact ⟨b0, b1, b2, b3, b4, b5, b6, b7, true, true, b10, b11, rfl, rfl, hF⟩
      · obtain rfl : b10 = false := ready_self hr
        obtain rfl : b7 = true := ready_dep hr 7 (by kernel_rfl)
        refine st_store rfl (by kernel_rfl) rfl 28 (.tmp 2) (.tmp 35) rfl (w.heap.size + 1) zl #[.slice ea en ec, .slice fa fn fc, .int .i64 (U + 1 : Nat)] (by kernel_rfl) (by kernel_rfl) hF.z (by kernel_rfl) rfl (one_lv _ _ _ _ _ _ _) ?_
        exact ⟨b0, b1, b2, b3, b4, b5, b6, true, b8, b9, true, b11, rfl, rfl, hF.stored⟩
      · obtain rfl : b11 = false := ready_self hr
        obtain rfl : b9 = true := ready_dep hr 9 (by kernel_rfl)
        refine st_val rfl (by kernel_rfl) (some 3) rfl (.int .i64 U) V (by kernel_rfl) ?_
        exact ⟨b0, b1, b2, b3, b4, b5, b6, b7, b8, true, b10, true, rfl, rfl, hF⟩
    · intro act9 V hJ
      obtain ⟨b0, b1, b2, b3, b4, b5, b6, b7, b8, b9, b10, b11, he, rfl, hF⟩ := hJ
      have he : (#[true, true, true, true, true, true, true, true, true, true, true, true] : Array Bool) = #[b0, b1, b2, b3, b4, b5, b6, b7, b8, b9, b10, b11] := he
      simp only [Array.mk.injEq, List.cons.injEq, and_true] at he
      obtain ⟨rfl, rfl, rfl, rfl, rfl, rfl, rfl, rfl, rfl, rfl, rfl, rfl⟩ := he
      simp only [cond_true]
      have hB := hF.bel
      have hz : Bx V (w.heap.size + 1) #[.slice ea en ec, .slice fa fn fc, .int .i64 (U + 1 : Nat)] 28 := hF.z
      have HB := Lib.hid hB
      have HZ := Lib.hid hz
      clear hF h0 hB hz
      go_wp2_with fail
      exact bodyPost_ret (results_lv (p := 2) (q := 3) (by kernel_rfl) (by kernel_rfl) (by kernel_rfl) HZ.out (by kernel_rfl)) rfl ⟨fa, fc, rfl, ⟨HE.out.below HB.out, by show E.length ≤ ec; rw [HN.out]; exact HEC.out, Cs.nil _ _, HFC.out, by show E.length ≤ 1000; rw [HN.out]; exact hen, by simp, hu⟩, HB.out, .inl rfl⟩
  · have hT : takeM ⟨E, F, U⟩ = (⟨E, F.take (F.length - 1), U⟩, F.getD (F.length - 1) 0) := by simp [takeM, h0]
    rw [hT]
    simp only
    have HE := Lib.hid he
    have HC := Lib.hid hf
    obtain ⟨bf, of_, rfl, hbf, hcf⟩ := int_at hf (k := F.length - 1) (by omega)
    generalize hla : F.getD (F.length - 1) 0 = last at *
    have HT : Hid ((F.take (F.length - 1)).length = F.length - 1) := Lib.hid (by rw [List.length_take]; omega)
    have HT0 := HT
    generalize hen2 : E.length = en at *
    have HEN := Lib.hid hen2
    obtain ⟨fn, hfn0⟩ : ∃ fn, F.length = fn := ⟨_, rfl⟩
    have HN := Lib.hid hfn0
    rw [hfn0] at h0 hcf hfc hfn HT ⊢
    have hd : decide ((0 : Int) < (fn : Int)) = true := decide_eq_true (by omega)
    have hd2 : decide (0 < fn) = true := decide_eq_true (by omega)
    have h0 := (T2.start w #[.slice ea en ec, .slice (some ⟨bf, of_, none⟩) fn fc, .int .i64 U] #[.slice ea en ec, undef, .int .i64 U])
    have HEC := Lib.hid hec
    have HFC := Lib.hid hfc
    rw [show (F.take (fn - 1)).length = fn - 1 from HT.out]
    clear he hf hT hen2 hfc hec hfn0 hla
    go_enter Try.func39, Try.ntmps39
    go_upto_region 1 with fail
    change Code.wp _ _ _ _ ((w.alloc (.cells #[.slice ea en ec, .slice (some ⟨bf, of_, none⟩) fn fc, .int .i64 U] 28)).alloc (.cells zl 28))
    generalize ((w.alloc (.cells #[.slice ea en ec, .slice (some ⟨bf, of_, none⟩) fn fc, .int .i64 U] 28)).alloc (.cells zl 28)) = W at *
    apply wp_region_lit
    refine gw_val (by kernel_rfl) (some 5) rfl (.pointer (some ⟨w.heap.size, 1, none⟩)) (by kernel_rfl) ?_
    simp only [Act.put, List.setIfInBounds_toArray, List.set_cons_succ, List.set_cons_zero]
    refine gw_load (by kernel_rfl) (some 6) rfl 22 (.tmp 5) rfl ⟨w.heap.size, 1, none⟩ (.slice (some ⟨bf, of_, none⟩) fn fc) (by kernel_rfl) (h0.bx.load rfl (by kernel_rfl)) ?_
    simp only [Act.put, List.setIfInBounds_toArray, List.set_cons_succ, List.set_cons_zero]
    refine gw_val (by kernel_rfl) (some 7) rfl (.int .i64 fn) (by kernel_rfl) ?_
    simp only [Act.put, List.setIfInBounds_toArray, List.set_cons_succ, List.set_cons_zero]
    refine gw_val (by kernel_rfl) (some 4) rfl (.int .i64 fn) (by kernel_rfl) ?_
    simp only [Act.put, List.setIfInBounds_toArray, List.set_cons_succ, List.set_cons_zero]
    apply wpList_nil
    go_upto_region 3 with fail
    have h0 : TF w #[.slice ea en ec, .slice (some ⟨bf, of_, none⟩) fn fc, .int .i64 U] F ea en ec U false false false false undef undef { W with drawn := W.drawn + 1 } := ⟨(h0.below (Below.refl _ W).drew).same, fun h => (by cases h), fun h => (by cases h), fun h => (by cases h), fun h => (by cases h)⟩
    refine wp_region_inv (fun listed act9 V => ∃ b0 b1 b2 b3 b4 b5 b6 b7 b8 b9 b10 b11 b12 b13 b14 b15 b16 b17 b18 b19 : Bool, ∃ x12 x18 : Value, listed = #[b0, b1, b2, b3, b4, b5, b6, b7, b8, b9, b10, b11, b12, b13, b14, b15, b16, b17, b18, b19] ∧ act9 = { tmps := #[.agg #[.slice ea en ec, .slice (some ⟨bf, of_, none⟩) fn fc, .int .i64 U], .pointer (some ⟨w.heap.size, 0, none⟩), .pointer (some ⟨w.heap.size + 1, 0, none⟩), (cond b19 (.int .i64 last) (.int .i64 0)), .int .i64 fn, .pointer (some ⟨w.heap.size, 1, none⟩), .slice (some ⟨bf, of_, none⟩) fn fc, .int .i64 fn, .int .i64 fn, .bool true, (cond b0 (.pointer (some ⟨w.heap.size, 0, none⟩)) undef), (cond b1 (.slice ea en ec) undef), x12, (cond b3 (.pointer (some ⟨w.heap.size, 1, none⟩)) undef), (cond b4 (.slice (some ⟨bf, of_, none⟩) fn fc) undef), (cond b5 (.int .i64 fn) undef), (cond b6 (.int .i64 (fn - 1 : Nat)) undef), (cond b7 (.slice (some ⟨bf, of_, none⟩) (fn - 1) fc) undef), x18, (cond b9 (.pointer (some ⟨w.heap.size, 2, none⟩)) undef), (cond b10 (.int .i64 U) undef), (cond b11 (.agg #[.slice ea en ec, x18, .int .i64 U]) undef), (cond b12 (.pointer (some ⟨w.heap.size, 1, none⟩)) undef), (cond b13 (.slice (some ⟨bf, of_, none⟩) fn fc) undef), (cond b14 (.int .i64 fn) undef), (cond b15 (.int .i64 (fn - 1 : Nat)) undef), (cond b16 (.pointer (some ⟨bf, of_ + (fn - 1), none⟩)) undef), (cond b17 (.int .i64 last) undef), undef, undef, undef, undef, undef, undef, undef, undef, undef, undef], defers := [] } ∧ TF w #[.slice ea en ec, .slice (some ⟨bf, of_, none⟩) fn fc, .int .i64 U] F ea en ec U b2 b8 b11 b18 x12 x18 V) (by kernel_rfl) (by kernel_rfl) ?_ ?_ ?_
    · exact ⟨false, false, false, false, false, false, false, false, false, false, false, false, false, false, false, false, false, false, false, false, undef, undef, rfl, rfl, h0⟩
    · intro i9 listed act9 V hi hr hJ
      obtain ⟨b0, b1, b2, b3, b4, b5, b6, b7, b8, b9, b10, b11, b12, b13, b14, b15, b16, b17, b18, b19, x12, x18, rfl, rfl, hF⟩ := hJ
      have hi2 : i9 < 20 := hi
      have hi3 : i9 = 0 ∨ i9 = 1 ∨ i9 = 2 ∨ i9 = 3 ∨ i9 = 4 ∨ i9 = 5 ∨ i9 = 6 ∨ i9 = 7 ∨ i9 = 8 ∨ i9 = 9 ∨ i9 = 10 ∨ i9 = 11 ∨ i9 = 12 ∨ i9 = 13 ∨ i9 = 14 ∨ i9 = 15 ∨ i9 = 16 ∨ i9 = 17 ∨ i9 = 18 ∨ i9 = 19 := by omega
      rcases hi3 with rfl | rfl | rfl | rfl | rfl | rfl | rfl | rfl | rfl | rfl | rfl | rfl | rfl | rfl | rfl | rfl | rfl | rfl | rfl | rfl
      · obtain rfl : b0 = false := ready_self hr
        refine st_val rfl (by kernel_rfl) (some 10) rfl (.pointer (some ⟨w.heap.size, 0, none⟩)) V (by kernel_rfl) ?_
        exact ⟨true, b1, b2, b3, b4, b5, b6, b7, b8, b9, b10, b11, b12, b13, b14, b15, b16, b17, b18, b19, x12, x18, rfl, rfl, hF⟩
      · obtain rfl : b1 = false := ready_self hr
        obtain rfl : b0 = true := ready_dep hr 0 (by kernel_rfl)
        refine st_load rfl (by kernel_rfl) (some 11) rfl 26 (.tmp 10) rfl ⟨w.heap.size, 0, none⟩ (.slice ea en ec) (by kernel_rfl) (hF.t.bx.load rfl (by kernel_rfl)) ?_
        exact ⟨true, true, b2, b3, b4, b5, b6, b7, b8, b9, b10, b11, b12, b13, b14, b15, b16, b17, b18, b19, x12, x18, rfl, rfl, hF⟩
      · obtain rfl : b2 = false := ready_self hr
        refine st_build rfl (by kernel_rfl) (some 12) rfl 22 0 #[] rfl #[] (by kernel_rfl) (.slice (some ⟨V.heap.size, 0, none⟩) 0 0) _ (nil_int V) ?_
        exact ⟨b0, b1, true, b3, b4, b5, b6, b7, b8, b9, b10, b11, b12, b13, b14, b15, b16, b17, b18, b19, _, x18, rfl, rfl, hF.made⟩
      · obtain rfl : b3 = false := ready_self hr
        refine st_val rfl (by kernel_rfl) (some 13) rfl (.pointer (some ⟨w.heap.size, 1, none⟩)) V (by kernel_rfl) ?_
        exact ⟨b0, b1, b2, true, b4, b5, b6, b7, b8, b9, b10, b11, b12, b13, b14, b15, b16, b17, b18, b19, x12, x18, rfl, rfl, hF⟩
      · obtain rfl : b4 = false := ready_self hr
        obtain rfl : b3 = true := ready_dep hr 3 (by kernel_rfl)
        refine st_load rfl (by kernel_rfl) (some 14) rfl 22 (.tmp 13) rfl ⟨w.heap.size, 1, none⟩ (.slice (some ⟨bf, of_, none⟩) fn fc) (by kernel_rfl) (hF.t.bx.load rfl (by kernel_rfl)) ?_
        exact ⟨b0, b1, b2, true, true, b5, b6, b7, b8, b9, b10, b11, b12, b13, b14, b15, b16, b17, b18, b19, x12, x18, rfl, rfl, hF⟩
      · obtain rfl : b5 = false := ready_self hr
        refine st_val rfl (by kernel_rfl) (some 15) rfl (.int .i64 fn) V (by kernel_rfl) ?_
        exact ⟨b0, b1, b2, b3, b4, true, b6, b7, b8, b9, b10, b11, b12, b13, b14, b15, b16, b17, b18, b19, x12, x18, rfl, rfl, hF⟩
      · obtain rfl : b6 = false := ready_self hr
        obtain rfl : b5 = true := ready_dep hr 5 (by kernel_rfl)
        refine st_val rfl (by kernel_rfl) (some 16) rfl (.int .i64 (fn - 1 : Nat)) V (sub_one rfl fn (by omega) (by omega) (by kernel_rfl) V) ?_
        exact ⟨b0, b1, b2, b3, b4, true, true, b7, b8, b9, b10, b11, b12, b13, b14, b15, b16, b17, b18, b19, x12, x18, rfl, rfl, hF⟩
      · obtain rfl : b7 = false := ready_self hr
        obtain rfl : b4 = true := ready_dep hr 4 (by kernel_rfl)
        obtain rfl : b6 = true := ready_dep hr 6 (by kernel_rfl)
        refine st_slice_to rfl (by kernel_rfl) (some 17) rfl 22 (.tmp 14) (.tmp 16) rfl (.slice (some ⟨bf, of_, none⟩) fn fc) (.int .i64 (fn - 1 : Nat)) (.slice (some ⟨bf, of_, none⟩) (fn - 1) fc) (by kernel_rfl) (by kernel_rfl) (cut_int_to (some ⟨bf, of_, none⟩) fn fc (fn - 1) V (by have := HFC.out; omega)) ?_
        exact ⟨b0, b1, b2, b3, true, b5, true, true, b8, b9, b10, b11, b12, b13, b14, b15, b16, b17, b18, b19, x12, x18, rfl, rfl, hF⟩
      · obtain rfl : b8 = false := ready_self hr
        obtain rfl : b2 = true := ready_dep hr 2 (by kernel_rfl)
        obtain rfl : b7 = true := ready_dep hr 7 (by kernel_rfl)
        obtain rfl : b11 = false := by cases b11; rfl; exact absurd (hF.s11 rfl) (by decide)
        obtain rfl : b18 = false := by cases b18; rfl; exact absurd (hF.s18 rfl) (by decide)
        have hO := hF.nil rfl rfl
        obtain ⟨v, V2, hap, hO2, hb2, -⟩ := append_int hO (some ⟨bf, of_, none⟩) fc (F.take (fn - 1)) (by rw [← icells_take, Nat.mul_one]; exact (HC.out.below hF.t.bel).take _) HT.out hF.t.siz (by omega) (by omega)
        rw [List.nil_append, Nat.zero_add] at hO2
        rw [← HN.out] at hO2
        refine st_append rfl (by kernel_rfl) (some 18) rfl 22 rfl (.tmp 12) (.tmp 17) 22 rfl x12 (.slice (some ⟨bf, of_, none⟩) (fn - 1) fc) v V2 (by kernel_rfl) (by kernel_rfl) hap ?_
        exact ⟨b0, b1, true, b3, b4, b5, b6, true, true, b9, b10, false, b12, b13, b14, b15, b16, b17, false, b19, x12, v, rfl, rfl, hF.done hO2 hb2⟩
      · obtain rfl : b9 = false := ready_self hr
        refine st_val rfl (by kernel_rfl) (some 19) rfl (.pointer (some ⟨w.heap.size, 2, none⟩)) V (by kernel_rfl) ?_
        exact ⟨b0, b1, b2, b3, b4, b5, b6, b7, b8, true, b10, b11, b12, b13, b14, b15, b16, b17, b18, b19, x12, x18, rfl, rfl, hF⟩
      · obtain rfl : b10 = false := ready_self hr
        obtain rfl : b9 = true := ready_dep hr 9 (by kernel_rfl)
        refine st_load rfl (by kernel_rfl) (some 20) rfl 3 (.tmp 19) rfl ⟨w.heap.size, 2, none⟩ (.int .i64 U) (by kernel_rfl) (hF.t.bx.load rfl (by kernel_rfl)) ?_
        exact ⟨b0, b1, b2, b3, b4, b5, b6, b7, b8, true, true, b11, b12, b13, b14, b15, b16, b17, b18, b19, x12, x18, rfl, rfl, hF⟩
      · obtain rfl : b11 = false := ready_self hr
        obtain rfl : b1 = true := ready_dep hr 1 (by kernel_rfl)
        obtain rfl : b8 = true := ready_dep hr 8 (by kernel_rfl)
        obtain rfl : b10 = true := ready_dep hr 10 (by kernel_rfl)
        obtain ⟨f9, c9, rfl, -, -⟩ := own_cs (hF.app rfl)
        refine st_val rfl (by kernel_rfl) (some 21) rfl (.agg #[.slice ea en ec, .slice f9 (F.length - 1) c9, .int .i64 U]) V (by kernel_rfl) ?_
        exact ⟨b0, true, b2, b3, b4, b5, b6, b7, true, b9, true, true, b12, b13, b14, b15, b16, b17, b18, b19, x12, _, rfl, rfl, hF.built⟩
      · obtain rfl : b12 = false := ready_self hr
        refine st_val rfl (by kernel_rfl) (some 22) rfl (.pointer (some ⟨w.heap.size, 1, none⟩)) V (by kernel_rfl) ?_
        exact ⟨b0, b1, b2, b3, b4, b5, b6, b7, b8, b9, b10, b11, true, b13, b14, b15, b16, b17, b18, b19, x12, x18, rfl, rfl, hF⟩
      · obtain rfl : b13 = false := ready_self hr
        obtain rfl : b12 = true := ready_dep hr 12 (by kernel_rfl)
        refine st_load rfl (by kernel_rfl) (some 23) rfl 22 (.tmp 22) rfl ⟨w.heap.size, 1, none⟩ (.slice (some ⟨bf, of_, none⟩) fn fc) (by kernel_rfl) (hF.t.bx.load rfl (by kernel_rfl)) ?_
        exact ⟨b0, b1, b2, b3, b4, b5, b6, b7, b8, b9, b10, b11, true, true, b14, b15, b16, b17, b18, b19, x12, x18, rfl, rfl, hF⟩
      · obtain rfl : b14 = false := ready_self hr
        refine st_val rfl (by kernel_rfl) (some 24) rfl (.int .i64 fn) V (by kernel_rfl) ?_
        exact ⟨b0, b1, b2, b3, b4, b5, b6, b7, b8, b9, b10, b11, b12, b13, true, b15, b16, b17, b18, b19, x12, x18, rfl, rfl, hF⟩
      · obtain rfl : b15 = false := ready_self hr
        obtain rfl : b14 = true := ready_dep hr 14 (by kernel_rfl)
        refine st_val rfl (by kernel_rfl) (some 25) rfl (.int .i64 (fn - 1 : Nat)) V (sub_one rfl fn (by omega) (by omega) (by kernel_rfl) V) ?_
        exact ⟨b0, b1, b2, b3, b4, b5, b6, b7, b8, b9, b10, b11, b12, b13, true, true, b16, b17, b18, b19, x12, x18, rfl, rfl, hF⟩
      · obtain rfl : b16 = false := ready_self hr
        obtain rfl : b13 = true := ready_dep hr 13 (by kernel_rfl)
        obtain rfl : b15 = true := ready_dep hr 15 (by kernel_rfl)
        refine st_val rfl (by kernel_rfl) (some 26) rfl (.pointer (some ⟨bf, of_ + (fn - 1), none⟩)) V (idx_int bf of_ fn fc (fn - 1) (by omega) V _ _ rfl (by kernel_rfl) (by kernel_rfl)) ?_
        exact ⟨b0, b1, b2, b3, b4, b5, b6, b7, b8, b9, b10, b11, b12, true, b14, true, true, b17, b18, b19, x12, x18, rfl, rfl, hF⟩
      · obtain rfl : b17 = false := ready_self hr
        obtain rfl : b16 = true := ready_dep hr 16 (by kernel_rfl)
        refine st_load rfl (by kernel_rfl) (some 27) rfl 3 (.tmp 26) rfl ⟨bf, of_ + (fn - 1), none⟩ (.int .i64 last) (by kernel_rfl) (load_cell ((hF.t.bel.cell (p := ⟨bf, of_ + (fn - 1), none⟩) hbf).trans hcf) (by kernel_rfl)) ?_
        exact ⟨b0, b1, b2, b3, b4, b5, b6, b7, b8, b9, b10, b11, b12, b13, b14, b15, true, true, b18, b19, x12, x18, rfl, rfl, hF⟩
      · obtain rfl : b18 = false := ready_self hr
        obtain rfl : b11 = true := ready_dep hr 11 (by kernel_rfl)
        have h8 := hF.s11 rfl
        obtain rfl : b8 = true := h8
        obtain ⟨f9, c9, rfl, -, -⟩ := own_cs (hF.app rfl)
        refine st_store rfl (by kernel_rfl) rfl 28 (.tmp 2) (.tmp 21) rfl (w.heap.size + 1) zl #[.slice ea en ec, .slice f9 (F.length - 1) c9, .int .i64 U] (by kernel_rfl) (by kernel_rfl) hF.t.z (by kernel_rfl) rfl (one_lv _ _ _ _ _ _ _) ?_
        exact ⟨b0, b1, b2, b3, b4, b5, b6, b7, true, b9, b10, true, b12, b13, b14, b15, b16, b17, true, b19, x12, _, rfl, rfl, hF.stored⟩
      · obtain rfl : b19 = false := ready_self hr
        obtain rfl : b17 = true := ready_dep hr 17 (by kernel_rfl)
        refine st_val rfl (by kernel_rfl) (some 3) rfl (.int .i64 last) V (by kernel_rfl) ?_
        exact ⟨b0, b1, b2, b3, b4, b5, b6, b7, b8, b9, b10, b11, b12, b13, b14, b15, b16, true, b18, true, x12, x18, rfl, rfl, hF⟩
    · intro act9 V hJ
      obtain ⟨b0, b1, b2, b3, b4, b5, b6, b7, b8, b9, b10, b11, b12, b13, b14, b15, b16, b17, b18, b19, x12, x18, he, rfl, hF⟩ := hJ
      have he : (#[true, true, true, true, true, true, true, true, true, true, true, true, true, true, true, true, true, true, true, true] : Array Bool) = #[b0, b1, b2, b3, b4, b5, b6, b7, b8, b9, b10, b11, b12, b13, b14, b15, b16, b17, b18, b19] := he
      simp only [Array.mk.injEq, List.cons.injEq, and_true] at he
      obtain ⟨rfl, rfl, rfl, rfl, rfl, rfl, rfl, rfl, rfl, rfl, rfl, rfl, rfl, rfl, rfl, rfl, rfl, rfl, rfl, rfl⟩ := he
      simp only [cond_true]
      have hO := hF.app rfl
      obtain ⟨f9, c9, rfl, hC9, hc9⟩ := own_cs hO
      have hz : Bx V (w.heap.size + 1) #[.slice ea en ec, .slice f9 (F.length - 1) c9, .int .i64 U] 28 := hF.t.z
      have HB := Lib.hid hF.t.bel
      have HZ := Lib.hid hz
      have HC9 := Lib.hid hC9
      have HLO : Hid (Fr w V (some ⟨bf, of_, none⟩) f9) := Lib.hid (own_fr hO (by omega))
      clear hF h0 hz hO hC9
      go_wp2_with fail
      refine bodyPost_ret (results_lv (p := 2) (q := 3) (by kernel_rfl) (by kernel_rfl) (by kernel_rfl) HZ.out (by kernel_rfl)) rfl ⟨f9, c9, by rw [HN.out], ⟨HE.out.below HB.out, by show E.length ≤ ec; rw [HEN.out]; exact HEC.out, (by have := HC9.out; rw [HN.out] at this; exact this), by show (F.take (fn - 1)).length ≤ c9; rw [HT.out, ← HN.out]; exact hc9, by show E.length ≤ 1000; rw [HEN.out]; exact hen, by show (F.take (fn - 1)).length ≤ 1000; rw [HT.out]; omega, hun⟩, HB.out, HLO.out⟩
end Go.Proofs.Ytefinpapkjgpoaa
