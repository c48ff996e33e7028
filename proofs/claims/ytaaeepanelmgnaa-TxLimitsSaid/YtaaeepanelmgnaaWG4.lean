/-
  The contracts of wire.Append and wire.Size.
  Conditions: as typed.
-/
import Derived.Test.YtaaeepanelmgnaaWG3
namespace Go.Proofs.Ytaaeepanelmgnaa
set_option maxRecDepth 100000
open Go.RowKit

/-- A field lies in the cells from o on of block g. -/
def Box (w : World) (g o : Nat) (num kind val : Int) (b : Option Addr) (n d : Nat) : Prop :=
  w.cell? ⟨g, o, none⟩ = some (.int .i64 num) ∧ w.cell? ⟨g, o + 1, none⟩ = some (.int .i64 kind) ∧ w.cell? ⟨g, o + 2, none⟩ = some (.int .u64 val) ∧ w.cell? ⟨g, o + 3, none⟩ = some (.slice b n d)
theorem box_new (w : World) (num kind val : Int) (b : Option Addr) (n d : Nat) : Box (w.alloc (.cells #[.int .i64 num, .int .i64 kind, .int .u64 val, .slice b n d] 54)) w.heap.size 0 num kind val b n d := by
  refine ⟨?_, ?_, ?_, ?_⟩ <;> simp
theorem Box.lt {w : World} {g o : Nat} {num kind val : Int} {b : Option Addr} {n d : Nat} (h : Box w g o num kind val b n d) : g < w.heap.size := World.block_lt_of_cell? w (⟨g, o, none⟩ : Addr) h.1
theorem Box.below {w w' : World} {g o : Nat} {num kind val : Int} {b : Option Addr} {n d : Nat} (h : Box w g o num kind val b n d) (hb : Below w.heap.size w w') : Box w' g o num kind val b n d :=
  ⟨(hb.cell (p := ⟨g, o, none⟩) h.lt).trans h.1, (hb.cell (p := ⟨g, o + 1, none⟩) h.lt).trans h.2.1, (hb.cell (p := ⟨g, o + 2, none⟩) h.lt).trans h.2.2.1, (hb.cell (p := ⟨g, o + 3, none⟩) h.lt).trans h.2.2.2⟩

theorem sec_b (kind val : Int) (n : Nat) (hv : W64 val) (hn : n ≤ 1000000) : W64 (secI kind val n) := by
  unfold secI W64 at *
  split <;> omega

set_option maxHeartbeats 2000000 in
theorem code_wappend_bad (a : Option Addr) (len c : Nat) (num kind val : Int) (b : Option Addr) (n d : Nat) (w : World) (hv : ¬ Vfi num kind val n) :
    Calls Try.prog 60 #[.slice a len c, .agg #[.int .i64 num, .int .i64 kind, .int .u64 val, .slice b n d]] w fun e w' => e = .returned (.tuple #[.slice none 0 0, .int .i64 1]) ∧ Below w.heap.size w w' := by
  have cV := code_valid num kind val b n d
  rw [vldB_false hv] at cV
  go_enter Try.func60, Try.ntmps60
  go_wp2_with fail
  refine (cV _).mono ?_
  rintro e w1 ⟨rfl, hb1⟩
  have hb : Below w.heap.size w w1 := ((Below.refl _ w).alloc (Nat.le_refl _) (.cells #[.int .i64 num, .int .i64 kind, .int .u64 val, .slice b n d] 54)).trans (hb1.mono (by simp))
  clear cV hb1
  go_wp2
  go_ret2
  exact ⟨rfl, hb⟩

set_option maxHeartbeats 2000000 in
theorem code_wappend (a : Option Addr) (c : Nat) (L : List Int) (num kind val : Int) (b : Option Addr) (d : Nat) (B : List Int) (w : World) (hL : L.length ≤ 1000000) (hB : B.length ≤ 1000000) (hr : Sl w a c L) (hs : Sl w b d B) (hv : Vfi num kind val B.length) (hw : W64 val) :
    Calls Try.prog 60 #[.slice a L.length c, .agg #[.int .i64 num, .int .i64 kind, .int .u64 val, .slice b B.length d]] w fun e w' => ∃ v, e = .returned (.tuple #[v, .int .i64 0]) ∧ Own w' w.heap.size v (L ++ encI num kind val B) ∧ Below w.heap.size w w' := by
  have cV := code_valid num kind val b B.length d
  rw [vldB_true hv] at cV
  have hk : kind = 0 ∨ kind = 2 := by unfold Vfi at hv; omega
  have hn0 := hv.1
  have hn1 := hv.2.1
  have cT := fun w => code_tag num kind val b B.length d w hn0 hn1 hk
  have cS := fun w => code_second num kind val b B.length d w hB
  have hsb := sec_b kind val B.length hw hB
  have htb : W64 (8 * num + kind) := by unfold W64; omega
  have cA := fun w => code_append none 0 [] (8 * num + kind) w (by simp) (.inl ⟨rfl, rfl, rfl⟩) htb
  simp only [List.length_nil, List.nil_append] at cA
  have hEl := Enc_len (8 * num + kind)
  have hEl2 := Enc_len (secI kind val B.length)
  have cB := fun a c w hr => code_append a c (Enc (8 * num + kind)) (secI kind val B.length) w (by omega) hr hsb
  have hfin : encI num kind val B = (Enc (8 * num + kind) ++ Enc (secI kind val B.length)) ++ B := by simp [encI]
  generalize secI kind val B.length = sc at *
  generalize Enc (8 * num + kind) = E1 at *
  generalize Enc sc = E2 at *
  have HFIN := Lib.hid hfin
  have HR := Lib.hid hr
  have HS := Lib.hid hs
  clear hfin hr hs hk hv hsb
  go_enter Try.func60, Try.ntmps60
  go_wp2_with fail
  refine (cV _).mono ?_
  rintro e w1 ⟨rfl, hb1⟩
  have hx := (box_new w num kind val b B.length d).below hb1
  have hb : Below w.heap.size w w1 := ((Below.refl _ w).alloc (Nat.le_refl _) (.cells #[.int .i64 num, .int .i64 kind, .int .u64 val, .slice b B.length d] 54)).trans (hb1.mono (by simp))
  clear cV hb1
  go_wp2_with fail
  go_region_held3 (fun wx => wx.cell? ⟨w.heap.size, 0, none⟩ = some (.int .i64 num) ∧ wx.cell? ⟨w.heap.size, 0 + 1, none⟩ = some (.int .i64 kind) ∧ wx.cell? ⟨w.heap.size, 0 + 2, none⟩ = some (.int .u64 val) ∧ wx.cell? ⟨w.heap.size, 0 + 3, none⟩ = some (.slice b B.length d))
    (first | exact x5 | exact x4 | exact x3 | exact x2 | exact hx) (first
    | (go_at_call 64; refine (cB _ _ _ s4).mono ?_; rintro e w5 ⟨v5, rfl, ho5, hb5⟩; have x5 := x4.below hb5)
    | (go_at_call 65; refine (cT _).mono ?_; rintro e w2 ⟨rfl, hb2⟩; have x2 := Box.below (w := w1.drew) hx hb2)
    | (go_at_call 66; refine (cS _).mono ?_; rintro e w4 ⟨rfl, hb4⟩; have x4 := x3.below hb4; have s4 := sl_below s3 hb4)
    | (go_at_call 64; refine (cA _).mono ?_; rintro e w3 ⟨v3, rfl, ho3, hb3⟩; have x3 := x2.below hb3; obtain ⟨a3, c3, rfl, s3, -⟩ := Own.sl ho3))
  have hb5' : Below w.heap.size w w5 := (((hb.drew.trans (hb2.mono hb.size)).trans (hb3.mono (hb.drew.trans (hb2.mono hb.size)).size)).trans (hb4.mono ((hb.drew.trans (hb2.mono hb.size)).trans (hb3.mono (hb.drew.trans (hb2.mono hb.size)).size)).size)).trans
    (hb5.mono (((hb.drew.trans (hb2.mono hb.size)).trans (hb3.mono (hb.drew.trans (hb2.mono hb.size)).size)).trans (hb4.mono ((hb.drew.trans (hb2.mono hb.size)).trans (hb3.mono (hb.drew.trans (hb2.mono hb.size)).size)).size)).size)
  obtain ⟨a5, c5, rfl, s5, -⟩ := Own.sl ho5
  have x53 : w5.cell? ⟨w.heap.size, 3, none⟩ = some (.slice b B.length d) := x5.2.2.2
  have HB5 := Lib.hid hb5'
  have HS5 := Lib.hid s5
  have hlen : (E1 ++ E2).length ≤ 20 := by rw [List.length_append]; omega
  have hpos : 0 < (E1 ++ E2).length := by rw [List.length_append]; omega
  generalize E1 ++ E2 = E at *
  clear cT cS cA cB hx x2 x3 x4 x5 s3 s4 hb hb2 hb3 hb4 hb5 hb5' ho3 ho5 s5
  go_wp2_with fail
  have hbn := HB5.out.alloc HB5.out.size (.cells #[.slice a L.length c, .slice a5 E.length c5, .slice b B.length d] 39)
  have hbm := (Below.refl w5.heap.size w5).alloc (Nat.le_refl _) (.cells #[.slice a L.length c, .slice a5 E.length c5, .slice b B.length d] 39)
  have hS3 : Sls (w5.alloc (.cells #[.slice a L.length c, .slice a5 E.length c5, .slice b B.length d] 39)) w5.heap.size [(a, c, L), (a5, c5, E), (b, d, B)] := by
    intro k hk
    match k, hk with
    | 0, _ => exact ⟨by simp, sl_below HR.out hbn⟩
    | 1, _ => exact ⟨by simp, sl_below HS5.out hbm⟩
    | 2, _ => exact ⟨by simp, sl_below HS.out hbn⟩
  have hfl : flat [(a, c, L), (a5, c5, E), (b, d, B)] = L ++ (E ++ B) := by simp [flat]
  have cC := concat_any w5.heap.size [(a, c, L), (a5, c5, E), (b, d, B)] _ (by simp) hS3 (by rw [hfl]; simp only [List.length_append]; omega) (by rw [hfl]; simp only [List.length_append]; omega) (by simp)
  rw [hfl] at cC
  refine cC.mono ?_
  rintro e w6 ⟨v6, rfl, ho6, hb6⟩
  have hbl := hbn.trans (hb6.mono hbn.size)
  have HO : Hid (Own w6 w.heap.size v6 (L ++ encI num kind val B)) := by
    rw [HFIN.out]
    exact Lib.hid (ho6.base hbn.size)
  clear cC hS3 hbm hbn ho6 hb6 hfl
  go_wp2
  go_ret2
  exact ⟨_, rfl, HO.out, hbl⟩
end Go.Proofs.Ytaaeepanelmgnaa
