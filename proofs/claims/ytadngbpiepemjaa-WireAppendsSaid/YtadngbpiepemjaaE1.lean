/-
  The walk over the statement on Append and Size of a field, where at most 200 bytes come in.
  Conditions: as typed.
-/
import Derived.Test.YtadngbpiepemjaaH5
import Derived.Test.YtadngbpiepemjaaG9
namespace Go.Proofs.Ytadngbpiepemjaa
open Go.RowKit

set_option maxHeartbeats 4000000 in
set_option maxRecDepth 100000 in
theorem appends_core (a : Option Addr) (c : Nat) (L : List Int) (num kind val : Int) (b : Option Addr) (d : Nat) (B : List Int) (how : Int) (w : World) (hL : L.length ≤ 200) (hB : B.length ≤ 200) (hr : Sl w a c L) (hs : Sl w b d B) (hw : W64 val) (hh : W8 how) :
    Calls Try.prog 3 #[.slice a L.length c, .agg #[.int .i64 num, .int .i64 kind, .int .u64 val, .slice b B.length d], .int .u8 how] w fun e w' => e = .returned (.bool true) ∧ Below w.heap.size w w' := by
  have hb1 : decide ((200 : Int) < (L.length : Int)) = false := decide_eq_false (by omega)
  have hb2 : decide ((200 : Int) < (B.length : Int)) = false := decide_eq_false (by omega)
  have HR := Lib.hid hr
  have HS := Lib.hid hs
  have cN := fun w => near_any num kind val how b B d w hh
  have cZ := fun w => near_zero num kind val b B d w
  obtain ⟨hh0, hh1⟩ := hh
  have hx0 := box_new w num kind val b B.length d
  have hbw := (Below.refl w.heap.size w).alloc (Nat.le_refl _) (.cells #[.int .i64 num, .int .i64 kind, .int .u64 val, .slice b B.length d] 25)
  clear hr hs
  go_enter Try.func3, Try.ntmps3
  go_wp2_with fail
  go_region_held3 (fun wx => wx.cell? ⟨w.heap.size, 0, none⟩ = some (.int .i64 num) ∧ wx.cell? ⟨w.heap.size, 0 + 1, none⟩ = some (.int .i64 kind) ∧ wx.cell? ⟨w.heap.size, 0 + 2, none⟩ = some (.int .u64 val) ∧ wx.cell? ⟨w.heap.size, 0 + 3, none⟩ = some (.slice b B.length d))
    (first | exact x3.below ((Below.refl w3.heap.size w3).alloc (Nat.le_refl _) _) | exact x3 | exact x2 | exact hx0) (first
    | (go_at_call 9; have q2 := x2; refine (cZ _).mono ?_; rintro e w3 ⟨n2, k2, v2, b2, B2, d2, rfl, hv2, hc2, hf2, hn2, hb3⟩; have x3 := x2.below hb3)
    | (go_at_call 9; refine (cN _).mono ?_; rintro e w2 ⟨n1, k1, v1, b1, B1, d1, rfl, hv1, hc1, hb2⟩; have x2 := Box.below (w := (w.alloc (.cells #[.int .i64 num, .int .i64 kind, .int .u64 val, .slice b B.length d] 25)).drew) hx0 hb2))
  have hb3' := bnext (bnext hbw.drew hb2) hb3
  have hbn := hb3'.alloc hb3'.size
  generalize IntKind.i64.wrap (IntKind.i64.wrap (536870911 + IntKind.i64.wrap (how.tmod 3)) - 1) = n3 at *
  have q1 : W64 v1 := by unfold W64 at *; omega
  have q2 : W64 v2 := by unfold W64 at *; omega
  clear cN cZ x2 x3 hx0 hbw hb2 hb3 hv1 hv2 hf2 hn2
  go_wp2_with fail
  obtain ⟨w4, hw4⟩ : ∃ w4, w4 = w3.alloc (.cells #[.int .i64 num, .int .i64 kind, .int .u64 val, .slice b B.length d, .int .i64 n1, .int .i64 k1, .int .u64 v1, .slice b1 B1.length d1, .int .i64 n2, .int .i64 k2, .int .u64 v2, .slice b2 B2.length d2,
    .int .i64 n3, .int .i64 0, .int .u64 val, .slice none 0 0] 25) := ⟨_, rfl⟩
  have hB4 : Below w.heap.size w w4 := by rw [hw4]; exact hbn _
  have hS4 := sl_below HS.out hB4
  have HC : Hid (∀ k : Nat, k < 4 → ∃ (nu ki va : Int) (b' : Option Addr) (B' : List Int) (d' : Nat), Box w4 w3.heap.size (k * 4) nu ki va b' B'.length d' ∧ Sl w4 b' d' B' ∧ B'.length ≤ 200 ∧ W64 va) := by
    have hc : ∀ j, w4.cell? ⟨w3.heap.size, j, none⟩ = (#[.int .i64 num, .int .i64 kind, .int .u64 val, .slice b B.length d, .int .i64 n1, .int .i64 k1, .int .u64 v1, .slice b1 B1.length d1, .int .i64 n2, .int .i64 k2, .int .u64 v2, .slice b2 B2.length d2,
        .int .i64 n3, .int .i64 0, .int .u64 val, .slice none 0 0] : Array Value)[j]? := by
      intro j
      rw [hw4, cell_of_row _ w3.heap.size j _ 25 (0, 0) (heap_alloc_new w3 _)]
    intro k hk
    match k, hk with
    | 0, _ => exact ⟨num, kind, val, b, B, d, ⟨hc 0, hc 1, hc 2, hc 3⟩, hS4, hB, hw⟩
    | 1, _ =>
      refine ⟨n1, k1, v1, b1, B1, d1, ⟨hc 4, hc 5, hc 6, hc 7⟩, ?_, ?_, q1⟩
      · rcases hc1 with ⟨rfl, rfl, rfl⟩ | ⟨rfl, rfl, rfl⟩
        · exact hS4
        · exact .inl ⟨rfl, rfl, rfl⟩
      · rcases hc1 with ⟨rfl, rfl, rfl⟩ | ⟨rfl, rfl, rfl⟩
        · exact hB
        · simp
    | 2, _ =>
      refine ⟨n2, k2, v2, b2, B2, d2, ⟨hc 8, hc 9, hc 10, hc 11⟩, ?_, ?_, q2⟩
      · rcases hc2 with ⟨rfl, rfl, rfl⟩ | ⟨rfl, rfl, rfl⟩
        · exact hS4
        · exact .inl ⟨rfl, rfl, rfl⟩
      · rcases hc2 with ⟨rfl, rfl, rfl⟩ | ⟨rfl, rfl, rfl⟩
        · exact hB
        · simp
    | 3, _ => exact ⟨n3, 0, val, none, [], 0, ⟨hc 12, hc 13, hc 14, hc 15⟩, .inl ⟨rfl, rfl, rfl⟩, by simp, hw⟩
  have hz : w3.heap.size < w4.heap.size := by rw [hw4]; simp
  rw [← hw4]
  have HR4 := Lib.hid (sl_below HR.out hB4)
  have HB4 := Lib.hid hB4
  clear hw4 hbn hB4 hS4 hc1 hc2 q1 q2 hb1 hb2 hb3' HS HR
  go_loopg [39] 4 (fun g s39 wx => ∃ k : Nat, k ≤ 4 ∧ s39 = .int .i64 k ∧ Below w4.heap.size w4 wx ∧ 4 - k = g)
  case atStart => exact ⟨0, by omega, rfl, Below.refl _ _, rfl⟩
  case round =>
    obtain ⟨k, hk, rfl, hbx, rfl⟩ := hrel
    have hsz := hbx.size
    by_cases hlt : k < 4
    · obtain ⟨nu, ki, va, b', B', d', hx, hs', hB', hv'⟩ := HC.out k hlt
      obtain ⟨x0, x1, x2, x3⟩ := hx.below hbx
      have s0 := sl_below HR4.out hbx
      have t0 := sl_below hs' hbx
      have hk0 : (0 : Int) ≤ (k : Int) := by omega
      have hk1 : (k : Int) < 4 := by omega
      clear hx hs'
      have hbox := box_new wr nu ki va b' B'.length d'
      have hbr := hbx.alloc hsz (.cells #[.int .i64 nu, .int .i64 ki, .int .u64 va, .slice b' B'.length d'] 25)
      by_cases hv : Vfi nu ki va B'.length
      · have cA := fun w hr hs => code_wappend a c L nu ki va b' d' B' w (by omega) (by omega) hr hs hv hv'
        have cB := fun w hr hs => ref_field a c L nu ki va b' d' B' w (by omega) (by omega) hr hs hv hv'
        have cS := fun w => code_size nu ki va b' d' B' w (by omega) hv hv'
        have cT := fun w hs => ref_sizeField nu ki va b' d' B' w (by omega) hs hv hv'
        generalize encI nu ki va B' = E at *
        generalize L ++ E = M at *
        have S0 := Lib.hid (sl_below s0 ((Below.refl _ wr).alloc (Nat.le_refl _) (.cells #[.int .i64 nu, .int .i64 ki, .int .u64 va, .slice b' B'.length d'] 25)))
        have T0 := Lib.hid (sl_below t0 ((Below.refl _ wr).alloc (Nat.le_refl _) (.cells #[.int .i64 nu, .int .i64 ki, .int .u64 va, .slice b' B'.length d'] 25)))
        clear hv s0 t0
        go_wp2_with fail
        refine (cA _ S0.out T0.out).mono ?_
        rintro e w5 ⟨v5, rfl, ho5, hb5⟩
        have k5 := hbox.below hb5
        have S5 := Lib.hid (sl_below S0.out hb5)
        have T5 := Lib.hid (sl_below T0.out hb5)
        have hb5' := bnext hbr hb5
        obtain ⟨a5, c5, rfl, m5, -⟩ := ho5.sl
        obtain ⟨z0, z1, z2, z3⟩ := k5
        have z1' : w5.cell? ⟨wr.heap.size, 1, none⟩ = some (.int .i64 ki) := z1
        have z2' : w5.cell? ⟨wr.heap.size, 2, none⟩ = some (.int .u64 va) := z2
        have z3' : w5.cell? ⟨wr.heap.size, 3, none⟩ = some (.slice b' B'.length d') := z3
        have k5 : Box w5 wr.heap.size 0 nu ki va b' B'.length d' := ⟨z0, z1, z2, z3⟩
        have K5 := Lib.hid k5
        clear cA ho5 hb5 hbox hbr S0 T0 x0 x1 x2 x3 z1 z2 z3 k5
        go_wp2_with fail
        refine (cB _ S5.out T5.out).mono ?_
        rintro e w6 ⟨v6, rfl, ho6, hb6⟩
        have k6 := K5.out.below hb6
        have T6 := Lib.hid (sl_below T5.out hb6)
        have M5 := Lib.hid (sl_below m5 hb6)
        have hb6' := bnext hb5' hb6
        obtain ⟨a6, c6, rfl, m6, -⟩ := ho6.sl
        clear cB ho6 hb6 K5 S5 T5 m5 z0 z1' z2' z3' hb5'
        go_wp2_with fail
        go_region_held3 (fun wx => wx.cell? ⟨wr.heap.size, 0, none⟩ = some (.int .i64 nu) ∧ wx.cell? ⟨wr.heap.size, 0 + 1, none⟩ = some (.int .i64 ki) ∧ wx.cell? ⟨wr.heap.size, 0 + 2, none⟩ = some (.int .u64 va) ∧ wx.cell? ⟨wr.heap.size, 0 + 3, none⟩ = some (.slice b' B'.length d'))
          (first | exact k8 | exact k7 | exact k6) (first
          | (go_at_call 12; refine (same_true a5 c5 a6 c6 M w6.drew M5.out m6).mono ?_; rintro e w9 ⟨rfl, rfl⟩)
          | (go_at_call 14; have q7 := k7; refine (cT _ (sl_below (w := w6.drew) T6.out hb7)).mono ?_; rintro e w8 ⟨rfl, hb8⟩; have k8 := k7.below hb8)
          | (go_at_call 13; refine (cS _).mono ?_; rintro e w7 ⟨rfl, hb7⟩; have k7 := Box.below (w := w6.drew) k6 hb7))
        have hbl := bnext (bnext hb6'.drew hb7) hb8
        go_wp2_with fail
        go_roundg (4 - (k + 1))
        case measure => omega
        case rel => exact ⟨k + 1, by omega, by go_num, hbl, rfl⟩
      · have cA := fun w => code_wappend_bad a L.length c nu ki va b' B'.length d' w hv
        have cB := fun w => ref_field_bad a L.length c nu ki va b' B'.length d' w hv
        have cS := fun w => code_size_bad nu ki va b' B'.length d' w hv
        have cT := fun w => ref_sizeField_bad nu ki va b' B'.length d' w hv
        clear hv s0 t0
        go_wp2_with fail
        refine (cA _).mono ?_
        rintro e w5 ⟨rfl, hb5⟩
        have k5 := hbox.below hb5
        have hb5' := bnext hbr hb5
        obtain ⟨z0, z1, z2, z3⟩ := k5
        have z1' : w5.cell? ⟨wr.heap.size, 1, none⟩ = some (.int .i64 ki) := z1
        have z2' : w5.cell? ⟨wr.heap.size, 2, none⟩ = some (.int .u64 va) := z2
        have z3' : w5.cell? ⟨wr.heap.size, 3, none⟩ = some (.slice b' B'.length d') := z3
        have k5 : Box w5 wr.heap.size 0 nu ki va b' B'.length d' := ⟨z0, z1, z2, z3⟩
        have K5 := Lib.hid k5
        clear cA hb5 hbox hbr x0 x1 x2 x3 z1 z2 z3 k5
        go_wp2_with fail
        refine (cB _).mono ?_
        rintro e w6 ⟨rfl, hb6⟩
        have k6 := K5.out.below hb6
        have hb6' := bnext hb5' hb6
        clear cB hb6 K5 z0 z1' z2' z3' hb5'
        go_wp2_with fail
        go_region_held3 (fun wx => wx.cell? ⟨wr.heap.size, 0, none⟩ = some (.int .i64 nu) ∧ wx.cell? ⟨wr.heap.size, 0 + 1, none⟩ = some (.int .i64 ki) ∧ wx.cell? ⟨wr.heap.size, 0 + 2, none⟩ = some (.int .u64 va) ∧ wx.cell? ⟨wr.heap.size, 0 + 3, none⟩ = some (.slice b' B'.length d'))
          (first | exact k8 | exact k7 | exact k6) (first
          | (go_at_call 12; refine (same_true none 0 none 0 [] w6.drew (.inl ⟨rfl, rfl, rfl⟩) (.inl ⟨rfl, rfl, rfl⟩)).mono ?_; rintro e w9 ⟨rfl, rfl⟩)
          | (go_at_call 14; have q7 := k7; refine (cT _).mono ?_; rintro e w8 ⟨rfl, hb8⟩; have k8 := k7.below hb8)
          | (go_at_call 13; refine (cS _).mono ?_; rintro e w7 ⟨rfl, hb7⟩; have k7 := Box.below (w := w6.drew) k6 hb7))
        have hbl := bnext (bnext hb6'.drew hb7) hb8
        go_wp2_with fail
        go_roundg (4 - (k + 1))
        case measure => omega
        case rel => exact ⟨k + 1, by omega, by go_num, hbl, rfl⟩
    · go_wp2_with fail
      refine (known_true _).mono ?_
      rintro e w5 ⟨rfl, hb5⟩
      go_wp2
      go_ret
      exact ⟨rfl, bnext (bnext HB4.out hbx) hb5⟩
end Go.Proofs.Ytadngbpiepemjaa
