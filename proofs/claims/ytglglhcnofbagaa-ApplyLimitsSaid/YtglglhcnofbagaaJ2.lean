/-
  The contracts of the small functions on a field: valid, tag, second, right.
  Conditions: as typed. The contracts of slices.Grow at nil, of slices.Concat, and of wire.Append.
  Conditions: as typed. The contracts of wire.Append and wire.Size.
  Conditions: as typed. The contracts of wire.Size, of both SizeBytes, and of wire.start.
  Conditions: as typed. The contract of wire.first: what onef says of the bytes.
  Conditions: as typed. Rows of fields: the cells of a list of fields; a row that a call made, with the fields' bytes in memory of the call's own; one field more.
  Conditions: none of their own. The contract of wire.Fields: what flds says of the bytes.
  Conditions: as typed. The contract of the reference's reading of one field: what onef says of the bytes.
  Conditions: as typed. The contract of the reference's reading of a message: what flds says of the bytes.
  Conditions: as typed.
-/
import Derived.Test.YtglglhcnofbagaaJ1
import Derived.Lib.LazyBuf
namespace Go.Proofs.Ytglglhcnofbagaa
set_option maxRecDepth 100000
open Go.RowKit

/-- Is the field valid? -/
def vldB (num kind val : Int) (n : Nat) : Bool := decide (1 ≤ num ∧ num ≤ 536870911 ∧ ((kind = 0 ∧ n = 0) ∨ (kind = 2 ∧ val = 0)))
theorem vldB_true {num kind val : Int} {n : Nat} (h : Vfi num kind val n) : vldB num kind val n = true := by unfold vldB Vfi at *; exact decide_eq_true h
theorem vldB_false {num kind val : Int} {n : Nat} (h : ¬ Vfi num kind val n) : vldB num kind val n = false := by unfold vldB Vfi at *; exact decide_eq_false h
theorem bret {num kind val : Int} {n : Nat} {b : Bool} (h : b = true ↔ Vfi num kind val n) : Ending.returned (.bool b) = .returned (.bool (vldB num kind val n)) := by
  by_cases hv : Vfi num kind val n
  · rw [vldB_true hv, h.2 hv]
  · rw [vldB_false hv]
    cases b with
    | false => rfl
    | true => exact absurd (h.1 rfl) hv

set_option maxHeartbeats 1000000 in
theorem ref_right (num kind val : Int) (a : Option Addr) (n c : Nat) (w : World) :
    Calls Try.prog 67 #[.agg #[.int .i64 num, .int .i64 kind, .int .u64 val, .slice a n c]] w fun e w' => e = .returned (.bool (vldB num kind val n)) ∧ Below w.heap.size w w' := by
  have hb := (Below.refl w.heap.size w).alloc (Nat.le_refl _) (.cells #[.int .i64 num, .int .i64 kind, .int .u64 val, .slice a n c] 66)
  go_enter Try.func67, Try.ntmps67
  go_wp2
  all_goals go_ret
  all_goals refine ⟨bret ?_, (Below.refl _ _).alloc (Nat.le_refl _) _⟩
  all_goals clear hb
  all_goals unfold Vfi
  all_goals simp at *
  all_goals omega

/-- What a call of Clone makes. -/
theorem clone_any (a : Option Addr) (c : Nat) (L : List Int) (w : World) (hL : L.length ≤ 1000000) (hr : Sl w a c L) :
    Calls Try.prog 94 #[.slice a L.length c] w fun e w' => ∃ v, e = .returned v ∧ Own w' w.heap.size v L ∧ Below w.heap.size w w' := by
  obtain ⟨i0, hi, hz0, hz1, hz2⟩ := info_parts info5
  have HI := Lib.hid hi
  have HZ0 := Lib.hid hz0
  have HZ1 := Lib.hid hz1
  have HZ2 := Lib.hid hz2
  have HR1 := Lib.hid (sl_below hr ((Below.refl w.heap.size w).alloc (Nat.le_refl _) (.cells #[] 5)))
  clear hi hz0 hz1 hz2
  have hnil := fun (w : World) (a : Option Addr) (n c : Nat) => run_eql_slice_nil (P := Try.prog) w 29 5 a n c Try.underlying29
  rcases a with _ | x
  · have hn : L = [] ∧ c = 0 := by
      rcases hr with ⟨_, h1, h2⟩ | ⟨x, hx, _⟩
      · exact ⟨h2, h1⟩
      · cases hx
    obtain ⟨rfl, rfl⟩ := hn
    clear HR1 hr
    go_enter Try.func94, Try.ntmps94
    go_wp2
    go_ret
    exact ⟨_, rfl, Own.nil _ _, Below.refl _ _⟩
  · clear hr
    go_enter Try.func94, Try.ntmps94
    go_wp2_with (at_builtin; refine append_src rfl _ _ 29 rfl w.heap.size i0 Try.underlying29 HI.out HZ0.out HZ1.out HZ2.out _ 0 [] rfl (own_empty w) (some x) L.length c L rfl rfl HR1.out ?c1 ?c2 ?_)
    case c1 => omega
    case c2 => simp
    intro v' w1 hown hgrow
    have hbel := after_append (w0 := w) (Nat.le_refl _) (by simp) (own_empty w) ((Below.refl _ w).alloc (Nat.le_refl _) _) hgrow
    have HO : Hid (Own w1 w.heap.size v' L) := by
      show w1.ownsRow _ _ _ _ _ _
      simpa using hown
    clear hgrow hown HR1
    go_wp2
    go_ret
    exact ⟨_, rfl, HO.out, hbel⟩
end Go.Proofs.Ytglglhcnofbagaa
namespace Go.Proofs.Ytglglhcnofbagaa
set_option maxRecDepth 100000
open Go.RowKit

end Go.Proofs.Ytglglhcnofbagaa
namespace Go.Proofs.Ytglglhcnofbagaa
set_option maxRecDepth 100000
open Go.RowKit

/-- A field lies in the cells from o on of block g. -/
def Box (w : World) (g o : Nat) (num kind val : Int) (b : Option Addr) (n d : Nat) : Prop :=
  w.cell? ⟨g, o, none⟩ = some (.int .i64 num) ∧ w.cell? ⟨g, o + 1, none⟩ = some (.int .i64 kind) ∧ w.cell? ⟨g, o + 2, none⟩ = some (.int .u64 val) ∧ w.cell? ⟨g, o + 3, none⟩ = some (.slice b n d)
theorem box_new (w : World) (num kind val : Int) (b : Option Addr) (n d : Nat) : Box (w.alloc (.cells #[.int .i64 num, .int .i64 kind, .int .u64 val, .slice b n d] 66)) w.heap.size 0 num kind val b n d := by
  refine ⟨?_, ?_, ?_, ?_⟩ <;> simp
theorem Box.lt {w : World} {g o : Nat} {num kind val : Int} {b : Option Addr} {n d : Nat} (h : Box w g o num kind val b n d) : g < w.heap.size := World.block_lt_of_cell? w (⟨g, o, none⟩ : Addr) h.1
theorem Box.below {w w' : World} {g o : Nat} {num kind val : Int} {b : Option Addr} {n d : Nat} (h : Box w g o num kind val b n d) (hb : Below w.heap.size w w') : Box w' g o num kind val b n d :=
  ⟨(hb.cell (p := ⟨g, o, none⟩) h.lt).trans h.1, (hb.cell (p := ⟨g, o + 1, none⟩) h.lt).trans h.2.1, (hb.cell (p := ⟨g, o + 2, none⟩) h.lt).trans h.2.2.1, (hb.cell (p := ⟨g, o + 3, none⟩) h.lt).trans h.2.2.2⟩

end Go.Proofs.Ytglglhcnofbagaa
namespace Go.Proofs.Ytglglhcnofbagaa
set_option maxRecDepth 100000
open Go.RowKit

theorem bnext {w0 w w' : World} (h : Below w0.heap.size w0 w) (h2 : Below w.heap.size w w') : Below w0.heap.size w0 w' := h.trans (h2.mono h.size)

/-- The size of a field with n bytes and a small number. -/
def szB (n : Int) : Int := if n < 0 then 0 else 1 + ((Enc n).length : Nat) + n
/-- A read with an error. -/
theorem read_err {a : Option Addr} {c : Nat} {L : List Int} {w : World} (hL : L.length ≤ 1000000) (hr : Sl w a c L) (hw : ∀ x, x ∈ L → W8 x) {e0 : Int} (h : rd 0 0 L = (0, 0, e0)) :
    Calls Try.prog 93 #[.slice a L.length c] w fun e w' => e = .returned (.tuple #[.int .u64 0, .int .i64 0, .int .i64 e0]) ∧ w = w' := by
  have := code_read a c L w hL hr hw
  rw [h] at this
  exact this
theorem read_ok {a : Option Addr} {c : Nat} {L : List Int} {w : World} (hL : L.length ≤ 1000000) (hr : Sl w a c L) (hw : ∀ x, x ∈ L → W8 x) {t : Int} {k : Nat} (h : rd 0 0 L = (t, (k : Int), 0)) :
    Calls Try.prog 93 #[.slice a L.length c] w fun e w' => e = .returned (.tuple #[.int .u64 t, .int .i64 (k : Int), .int .i64 0]) ∧ w = w' := by
  have := code_read a c L w hL hr hw
  rw [h] at this
  exact this

set_option maxHeartbeats 1000000 in
theorem start_err (a : Option Addr) (c : Nat) (L : List Int) (w : World) (hL : L.length ≤ 1000000) (hr : Sl w a c L) (hw : ∀ x, x ∈ L → W8 x) (e0 : Int) (h : rd 0 0 L = (0, 0, e0)) (he : e0 ≠ 0) :
    Calls Try.prog 92 #[.slice a L.length c] w fun e w' => e = .returned (.tuple #[.agg #[.int .i64 0, .int .i64 0, .int .u64 0, .slice none 0 0], .int .i64 0, .int .i64 e0]) ∧ Below w.heap.size w w' := by
  have hbn := (Below.refl w.heap.size w).alloc (Nat.le_refl _) (.cells #[.int .i64 0, .int .i64 0, .int .u64 0, .slice none 0 0] 66)
  have cR := read_err hL (sl_below hr hbn) hw h
  have h1 : (e0 != 0) = true := by simpa using he
  have h2 : (e0 == 0) = false := by simpa using he
  clear h he hbn
  go_enter Try.func92, Try.ntmps92
  go_wp2_with fail
  refine cR.mono ?_
  rintro e w1 ⟨rfl, rfl⟩
  clear cR
  go_wp2
  exact bodyPost_ret (v := .tuple #[.agg #[.int .i64 0, .int .i64 0, .int .u64 0, .slice none 0 0], .int .i64 0, .int .i64 e0]) (by simp [results, Try.results92, go_sem]) rfl ⟨rfl, (Below.refl _ _).alloc (Nat.le_refl _) _⟩

set_option maxHeartbeats 1000000 in
theorem start_ok (a : Option Addr) (c : Nat) (L : List Int) (w : World) (hL : L.length ≤ 1000000) (hr : Sl w a c L) (hw : ∀ x, x ∈ L → W8 x) (t kd : Int) (k : Nat) (h : rd 0 0 L = (t, (k : Int), 0)) (hg : goodT t) (hk : t % 8 = kd) (hkd : kd = 0 ∨ kd = 2) :
    Calls Try.prog 92 #[.slice a L.length c] w fun e w' => e = .returned (.tuple #[.agg #[.int .i64 (t / 8), .int .i64 kd, .int .u64 0, .slice none 0 0], .int .i64 (k : Int), .int .i64 0]) ∧ Below w.heap.size w w' := by
  have hbn := (Below.refl w.heap.size w).alloc (Nat.le_refl _) (.cells #[.int .i64 0, .int .i64 0, .int .u64 0, .slice none 0 0] 66)
  have cR := read_ok hL (sl_below hr hbn) hw h
  obtain ⟨h1, h2, h3⟩ := hg
  have h0 : 0 ≤ t := by omega
  have h4 : t ≤ 18446744073709551615 := by omega
  clear h hbn h3
  rcases hkd with rfl | rfl
  · go_enter Try.func92, Try.ntmps92
    go_wp2_with fail
    refine cR.mono ?_
    rintro e w1 ⟨rfl, rfl⟩
    clear cR
    go_wp2
    exact bodyPost_ret (v := .tuple #[.agg #[.int .i64 (t / 8), .int .i64 0, .int .u64 0, .slice none 0 0], .int .i64 (k : Int), .int .i64 0]) (by simp [results, Try.results92, go_sem]) rfl ⟨rfl, (Below.refl _ _).alloc (Nat.le_refl _) _⟩
  · go_enter Try.func92, Try.ntmps92
    go_wp2_with fail
    refine cR.mono ?_
    rintro e w1 ⟨rfl, rfl⟩
    clear cR
    go_wp2
    exact bodyPost_ret (v := .tuple #[.agg #[.int .i64 (t / 8), .int .i64 2, .int .u64 0, .slice none 0 0], .int .i64 (k : Int), .int .i64 0]) (by simp [results, Try.results92, go_sem]) rfl ⟨rfl, (Below.refl _ _).alloc (Nat.le_refl _) _⟩
set_option maxHeartbeats 1000000 in
theorem start_bad (a : Option Addr) (c : Nat) (L : List Int) (w : World) (hL : L.length ≤ 1000000) (hr : Sl w a c L) (hw : ∀ x, x ∈ L → W8 x) (t : Int) (k : Nat) (h : rd 0 0 L = (t, (k : Int), 0)) (h0 : 0 ≤ t) (h1 : t ≤ 18446744073709551615) (hg : ¬ goodT t) :
    Calls Try.prog 92 #[.slice a L.length c] w fun e w' => e = .returned (.tuple #[.agg #[.int .i64 0, .int .i64 0, .int .u64 0, .slice none 0 0], .int .i64 0, .int .i64 4]) ∧ Below w.heap.size w w' := by
  have hbn := (Below.refl w.heap.size w).alloc (Nat.le_refl _) (.cells #[.int .i64 0, .int .i64 0, .int .u64 0, .slice none 0 0] 66)
  have cR := read_ok hL (sl_below hr hbn) hw h
  unfold goodT at hg
  have HG := Lib.hid hg
  clear h hbn hg
  go_enter Try.func92, Try.ntmps92
  go_wp2_with fail
  refine cR.mono ?_
  rintro e w1 ⟨rfl, rfl⟩
  clear cR
  go_wp2
  all_goals first
    | (exfalso; have hh := HG.out; clear HG; simp at *; omega)
    | exact bodyPost_ret (v := .tuple #[.agg #[.int .i64 0, .int .i64 0, .int .u64 0, .slice none 0 0], .int .i64 0, .int .i64 4]) (by simp [results, Try.results92, go_sem]) rfl ⟨rfl, (Below.refl _ _).alloc (Nat.le_refl _) _⟩
end Go.Proofs.Ytglglhcnofbagaa
namespace Go.Proofs.Ytglglhcnofbagaa
set_option maxRecDepth 100000
open Go.RowKit

/-- A call returned the field, the size and the error R; the field's bytes lie in memory of its own. -/
def OneR (w : World) (R : Fld × Int × Int) (e : Ending) (w' : World) : Prop :=
  ∃ v, e = .returned (.tuple #[.agg #[.int .i64 R.1.num, .int .i64 R.1.kind, .int .u64 R.1.val, v], .int .i64 R.2.1, .int .i64 R.2.2]) ∧ Own w' w.heap.size v R.1.bytes ∧ Below w.heap.size w w'
theorem oneR_err {w w' : World} {e0 : Int} (hb : Below w.heap.size w w') : OneR w (zeroF, 0, e0) (.returned (.tuple #[.agg #[.int .i64 0, .int .i64 0, .int .u64 0, .slice none 0 0], .int .i64 0, .int .i64 e0])) w' := ⟨_, rfl, Own.nil _ _, hb⟩

/-- The four cells of a block, none of them frozen. -/
def Cells4 (w : World) (g : Nat) (c0 c1 c2 c3 : Value) : Prop :=
  w.cell? ⟨g, 0, none⟩ = some c0 ∧ w.cell? ⟨g, 1, none⟩ = some c1 ∧ w.cell? ⟨g, 2, none⟩ = some c2 ∧ w.cell? ⟨g, 3, none⟩ = some c3 ∧ ∀ o, w.frozen? ⟨g, o, none⟩ = false
theorem cells4_new (w : World) (c0 c1 c2 c3 : Value) : Cells4 (w.alloc (.cells #[c0, c1, c2, c3] 66)) w.heap.size c0 c1 c2 c3 := by
  refine ⟨by simp, by simp, by simp, by simp, fun o => World.frozen?_alloc_at _ _ _ _ rfl⟩
theorem Cells4.lt {w : World} {g : Nat} {c0 c1 c2 c3 : Value} (h : Cells4 w g c0 c1 c2 c3) : g < w.heap.size := World.block_lt_of_cell? w (⟨g, 0, none⟩ : Addr) h.1
theorem Cells4.below {w w' : World} {g : Nat} {c0 c1 c2 c3 : Value} (h : Cells4 w g c0 c1 c2 c3) (hb : Below w.heap.size w w') : Cells4 w' g c0 c1 c2 c3 := by
  have hl := h.lt
  obtain ⟨h0, h1, h2, h3, hf⟩ := h
  exact ⟨(hb.cell (p := ⟨g, 0, none⟩) hl).trans h0, (hb.cell (p := ⟨g, 1, none⟩) hl).trans h1, (hb.cell (p := ⟨g, 2, none⟩) hl).trans h2, (hb.cell (p := ⟨g, 3, none⟩) hl).trans h3, fun o => (hb.frozen (p := ⟨g, o, none⟩) hl).trans (hf o)⟩
theorem Cells4.set {w : World} {g : Nat} {c0 c1 c2 c3 : Value} (h : Cells4 w g c0 c1 c2 c3) (d0 d1 d2 d3 : Value) :
    Cells4 ((((w.setCell ⟨g, 0, none⟩ d0).setCell ⟨g, 1, none⟩ d1).setCell ⟨g, 2, none⟩ d2).setCell ⟨g, 3, none⟩ d3) g d0 d1 d2 d3 := by
  obtain ⟨h0, h1, h2, h3, hf⟩ := h
  refine ⟨?_, ?_, ?_, ?_, fun o => ?_⟩
  · rw [World.cell?_setCell_other _ _ _ _ (by simp), World.cell?_setCell_other _ _ _ _ (by simp), World.cell?_setCell_other _ _ _ _ (by simp)]
    exact World.cell?_setCell_same _ _ _ h0
  · rw [World.cell?_setCell_other _ _ _ _ (by simp), World.cell?_setCell_other _ _ _ _ (by simp)]
    exact World.cell?_setCell_same _ _ _ ((World.cell?_setCell_other _ _ _ _ (by simp)).trans h1)
  · rw [World.cell?_setCell_other _ _ _ _ (by simp)]
    exact World.cell?_setCell_same _ _ _ ((World.cell?_setCell_other _ _ _ _ (by simp)).trans ((World.cell?_setCell_other _ _ _ _ (by simp)).trans h2))
  · exact World.cell?_setCell_same _ _ _ ((World.cell?_setCell_other _ _ _ _ (by simp)).trans ((World.cell?_setCell_other _ _ _ _ (by simp)).trans ((World.cell?_setCell_other _ _ _ _ (by simp)).trans h3)))
  · rw [World.frozen?_setCell, World.frozen?_setCell, World.frozen?_setCell, World.frozen?_setCell]
    exact hf o
theorem below4 {w0 w : World} {g : Nat} (h : Below w0.heap.size w0 w) (hg : w0.heap.size ≤ g) (d0 d1 d2 d3 : Value) :
    Below w0.heap.size w0 ((((w.setCell ⟨g, 0, none⟩ d0).setCell ⟨g, 1, none⟩ d1).setCell ⟨g, 2, none⟩ d2).setCell ⟨g, 3, none⟩ d3) :=
  (((h.setCell (p := ⟨g, 0, none⟩) hg _).setCell (p := ⟨g, 1, none⟩) hg _).setCell (p := ⟨g, 2, none⟩) hg _).setCell (p := ⟨g, 3, none⟩) hg _

theorem set4 {w0 w : World} {g : Nat} {c0 c1 c2 c3 : Value} (h : Cells4 w g c0 c1 c2 c3) (hb : Below w0.heap.size w0 w) (hg : w0.heap.size ≤ g) (d0 d1 d2 d3 : Value) :
    ∃ W, (((w.setCell ⟨g, 0, none⟩ d0).setCell ⟨g, 1, none⟩ d1).setCell ⟨g, 2, none⟩ d2).setCell ⟨g, 3, none⟩ d3 = W ∧ Cells4 W g d0 d1 d2 d3 ∧ Below w0.heap.size w0 W ∧
      (∀ B v L, Own w B v L → g < B → Own W B v L) ∧ w.heap.size ≤ W.heap.size :=
  ⟨_, rfl, h.set _ _ _ _, below4 hb hg _ _ _ _, fun B v L ho hl => ownsRow_setCell_below (ownsRow_setCell_below (ownsRow_setCell_below (ownsRow_setCell_below ho (a := ⟨g, 0, none⟩) hl _) (a := ⟨g, 1, none⟩) hl _) (a := ⟨g, 2, none⟩) hl _) (a := ⟨g, 3, none⟩) hl _, by simp⟩
theorem set1_2 {w0 w : World} {g : Nat} {c0 c1 c2 c3 : Value} (h : Cells4 w g c0 c1 c2 c3) (hb : Below w0.heap.size w0 w) (hg : w0.heap.size ≤ g) (d : Value) :
    ∃ W, w.setCell ⟨g, 2, none⟩ d = W ∧ Cells4 W g c0 c1 d c3 ∧ Below w0.heap.size w0 W := by
  refine ⟨_, rfl, ?_, hb.setCell (p := ⟨g, 2, none⟩) hg _⟩
  obtain ⟨h0, h1, h2, h3, hf⟩ := h
  exact ⟨(World.cell?_setCell_other _ _ _ _ (by simp)).trans h0, (World.cell?_setCell_other _ _ _ _ (by simp)).trans h1, World.cell?_setCell_same _ _ _ h2, (World.cell?_setCell_other _ _ _ _ (by simp)).trans h3, fun o => (World.frozen?_setCell _ _ _ _).trans (hf o)⟩
theorem set1_3 {w0 w : World} {g : Nat} {c0 c1 c2 c3 : Value} (h : Cells4 w g c0 c1 c2 c3) (hb : Below w0.heap.size w0 w) (hg : w0.heap.size ≤ g) (d : Value) :
    ∃ W, w.setCell ⟨g, 3, none⟩ d = W ∧ Cells4 W g c0 c1 c2 d ∧ Below w0.heap.size w0 W ∧ (∀ B v L, Own w B v L → g < B → Own W B v L) := by
  refine ⟨_, rfl, ?_, hb.setCell (p := ⟨g, 3, none⟩) hg _, fun B v L ho hl => ownsRow_setCell_below ho (a := ⟨g, 3, none⟩) hl _⟩
  obtain ⟨h0, h1, h2, h3, hf⟩ := h
  exact ⟨(World.cell?_setCell_other _ _ _ _ (by simp)).trans h0, (World.cell?_setCell_other _ _ _ _ (by simp)).trans h1, (World.cell?_setCell_other _ _ _ _ (by simp)).trans h2, World.cell?_setCell_same _ _ _ h3, fun o => (World.frozen?_setCell _ _ _ _).trans (hf o)⟩

set_option maxHeartbeats 2000000 in
theorem code_first (a : Option Addr) (c : Nat) (L : List Int) (w : World) (hL : L.length ≤ 1000000) (hr : Sl w a c L) (hw : ∀ x, x ∈ L → W8 x) (hc : L.length ≤ c) :
    Calls Try.prog 84 #[.slice a L.length c] w (OneR w (onef L)) := by
  have hbn := (Below.refl w.heap.size w).alloc (Nat.le_refl _) (.cells #[.int .i64 0, .int .i64 0, .int .u64 0, .slice none 0 0] 66)
  have hz : w.heap.size < (w.alloc (.cells #[.int .i64 0, .int .i64 0, .int .u64 0, .slice none 0 0] 66)).heap.size := by simp
  rcases one_cases L hw with ⟨e0, h, he⟩ | ⟨t, h, ht0, ht1, hrd, hh0, hh10, hle, -, -, hcs⟩
  · rw [one_tag h he]
    have cS := start_err a c L _ hL (sl_below hr hbn) hw e0 h he
    have h1 : (e0 != 0) = true := by simpa using he
    have h2 : (e0 == 0) = false := by simpa using he
    clear h he
    go_enter Try.func84, Try.ntmps84
    go_wp2_with fail
    refine cS.mono ?_
    rintro e w1 ⟨rfl, hb⟩
    have hbl := bnext hbn hb
    have K := (cells4_new w _ _ _ _).below hb
    have K' := Lib.hid K
    obtain ⟨k0, k1, k2, k3, kf⟩ := K
    clear cS hbn hb hz
    go_wp2
    clear k0 k1 k2 k3 kf
    obtain ⟨W2, hW2, KE, hblE, -, -⟩ := set4 K'.out hbl (Nat.le_refl _) (.int .i64 0) (.int .i64 0) (.int .u64 0) (.slice none 0 0)
    rw [hW2]
    obtain ⟨W3, hW3, KE3, hblE3, -, -⟩ := set4 KE hblE (Nat.le_refl _) (.int .i64 0) (.int .i64 0) (.int .u64 0) (.slice none 0 0)
    rw [hW3]
    clear hW2 hW3 KE hblE
    obtain ⟨k0, k1, k2, k3, kf⟩ := KE3
    exact bodyPost_ret (v := .tuple #[.agg #[.int .i64 0, .int .i64 0, .int .u64 0, .slice none 0 0], .int .i64 0, .int .i64 e0]) (by simp [results, Try.results84, go_sem, k0, k1, k2, k3]) rfl (oneR_err hblE3)
  rcases hcs with hb | ⟨hg, hcs⟩
  · rw [one_bad hrd hb]
    have cS := start_bad a c L _ hL (sl_below hr hbn) hw t h hrd ht0 ht1 hb
    clear hrd hb
    go_enter Try.func84, Try.ntmps84
    go_wp2_with fail
    refine cS.mono ?_
    rintro e w1 ⟨rfl, hb⟩
    have hbl := bnext hbn hb
    have K := (cells4_new w _ _ _ _).below hb
    have K' := Lib.hid K
    obtain ⟨k0, k1, k2, k3, kf⟩ := K
    clear cS hbn hb hz
    go_wp2
    clear k0 k1 k2 k3 kf
    obtain ⟨W2, hW2, KE, hblE, -, -⟩ := set4 K'.out hbl (Nat.le_refl _) (.int .i64 0) (.int .i64 0) (.int .u64 0) (.slice none 0 0)
    rw [hW2]
    obtain ⟨W3, hW3, KE3, hblE3, -, -⟩ := set4 KE hblE (Nat.le_refl _) (.int .i64 0) (.int .i64 0) (.int .u64 0) (.slice none 0 0)
    rw [hW3]
    clear hW2 hW3 KE hblE
    obtain ⟨k0, k1, k2, k3, kf⟩ := KE3
    exact bodyPost_ret (v := .tuple #[.agg #[.int .i64 0, .int .i64 0, .int .u64 0, .slice none 0 0], .int .i64 0, .int .i64 4]) (by simp [results, Try.results84, go_sem, k0, k1, k2, k3]) rfl (oneR_err hblE3)
  obtain ⟨kd, hk, hkd⟩ : ∃ kd, t % 8 = kd ∧ (kd = 0 ∨ kd = 2) := ⟨_, rfl, hg.2.2⟩
  have cS := start_ok a c L _ hL (sl_below hr hbn) hw t kd h hrd hg hk hkd
  have HS := Lib.hid (sl_from hr h hc)
  have hsl := fun wx => slice_from .i64 a L.length c h wx hle
  rcases hcs with ⟨e0, h2, he⟩ | ⟨n, k, hn, h2, hk0, hk10, hle2, -, -⟩
  · rw [one_len hrd hg h2 he]
    have cR : ∀ wx, Sl wx (fromA a c h) (c - h) (L.drop h) → Calls Try.prog 93 #[.slice (fromA a c h) (L.length - h) (c - h)] wx fun e w' => e = .returned (.tuple #[.int .u64 0, .int .i64 0, .int .i64 e0]) ∧ wx = w' := by
      intro wx hs
      have := read_err (by rw [List.length_drop]; omega) hs (drop_bytes hw h) h2
      rw [List.length_drop] at this
      exact this
    have h1 : (e0 != 0) = true := by simpa using he
    have h2' : (e0 == 0) = false := by simpa using he
    clear h2 he hk hkd hrd hg
    go_enter Try.func84, Try.ntmps84
    go_wp2_with fail
    refine cS.mono ?_
    rintro e w1 ⟨rfl, hb⟩
    have hbl := bnext hbn hb
    have K := (cells4_new w _ _ _ _).below hb
    have K' := Lib.hid K
    obtain ⟨k0, k1, k2, k3, kf⟩ := K
    clear cS hbn hb hz
    go_wp2_with fail
    obtain ⟨W, hW, K2', hbl2, -, hzW⟩ := set4 K'.out hbl (Nat.le_refl _) (.int .i64 (t / 8)) (.int .i64 kd) (.int .u64 0) (.slice none 0 0)
    rw [hW]
    clear k0 k1 k2 k3 kf hbl K' hW
    have K2 := Lib.hid K2'
    obtain ⟨k0, k1, k2, k3, kf⟩ := K2'
    refine (cR _ (sl_below HS.out hbl2)).mono ?_
    rintro e w2 ⟨rfl, rfl⟩
    clear cR
    go_wp2
    clear k0 k1 k2 k3 kf
    obtain ⟨W3, hW3, KE3, hblE3, -, -⟩ := set4 K2.out hbl2 (Nat.le_refl _) (.int .i64 0) (.int .i64 0) (.int .u64 0) (.slice none 0 0)
    rw [hW3]
    clear hW3
    obtain ⟨k0, k1, k2, k3, kf⟩ := KE3
    exact bodyPost_ret (v := .tuple #[.agg #[.int .i64 0, .int .i64 0, .int .u64 0, .slice none 0 0], .int .i64 0, .int .i64 e0]) (by simp [results, Try.results84, go_sem, k0, k1, k2, k3]) rfl (oneR_err hblE3)
  have cR : ∀ wx, Sl wx (fromA a c h) (c - h) (L.drop h) → Calls Try.prog 93 #[.slice (fromA a c h) (L.length - h) (c - h)] wx fun e w' => e = .returned (.tuple #[.int .u64 (n : Int), .int .i64 (k : Int), .int .i64 0]) ∧ wx = w' := by
    intro wx hs
    have := read_ok (by rw [List.length_drop]; omega) hs (drop_bytes hw h) h2
    rw [List.length_drop] at this
    exact this
  rcases hkd with rfl | rfl
  · rw [one_var hrd hg h2 hk]
    generalize t / 8 = q at *
    clear h2 hk hrd hg
    go_enter Try.func84, Try.ntmps84
    go_wp2_with fail
    refine cS.mono ?_
    rintro e w1 ⟨rfl, hb⟩
    have hbl := bnext hbn hb
    have K := (cells4_new w _ _ _ _).below hb
    have K' := Lib.hid K
    obtain ⟨k0, k1, k2, k3, kf⟩ := K
    clear cS hbn hb hz
    go_wp2_with fail
    obtain ⟨W, hW, K2', hbl2, -, hzW⟩ := set4 K'.out hbl (Nat.le_refl _) (.int .i64 q) (.int .i64 0) (.int .u64 0) (.slice none 0 0)
    rw [hW]
    clear k0 k1 k2 k3 kf hbl K' hW
    have K2 := Lib.hid K2'
    obtain ⟨k0, k1, k2, k3, kf⟩ := K2'
    refine (cR _ (sl_below HS.out hbl2)).mono ?_
    rintro e w2 ⟨rfl, rfl⟩
    clear cR
    go_wp2
    clear k0 k1 k2 k3 kf
    obtain ⟨W2, hW2, KE, hblE⟩ := set1_2 K2.out hbl2 (Nat.le_refl _) (.int .u64 (n : Int))
    rw [hW2]
    obtain ⟨W3, hW3, KE3, hblE3, -, -⟩ := set4 KE hblE (Nat.le_refl _) (.int .i64 q) (.int .i64 0) (.int .u64 (n : Int)) (.slice none 0 0)
    rw [hW3]
    clear hW2 hW3 KE hblE
    obtain ⟨k0, k1, k2, k3, kf⟩ := KE3
    exact bodyPost_ret (v := .tuple #[.agg #[.int .i64 q, .int .i64 0, .int .u64 (n : Int), .slice none 0 0], .int .i64 ((h + k : Nat) : Int), .int .i64 0]) (by simp [results, Try.results84, go_sem, k0, k1, k2, k3]) rfl ⟨_, rfl, Own.nil _ _, hblE3⟩
  have hsl2 : ∀ wx, (Instr.slice 29 (.slice a L.length c) (some (.int .i64 ((h : Int) + (k : Int)))) none none).run Try.prog wx = .ok (.slice (fromA a c (h + k)) (L.length - (h + k)) (c - (h + k))) wx := fun wx => slice_from .i64 a L.length c (h + k) wx hle2
  by_cases hs : n ≤ (L.drop (h + k)).length
  · rw [one_bytes hrd hg h2 hk hs]
    rw [List.length_drop] at hs
    have HS2 := Lib.hid (sl_take (sl_from hr (h + k) hc) n)
    have hsl3 := fun wx => slice_to .u64 (fromA a c (h + k)) (L.length - (h + k)) (c - (h + k)) n wx (by omega)
    have cC : ∀ wx, Sl wx (fromA a c (h + k)) (c - (h + k)) ((L.drop (h + k)).take n) → Calls Try.prog 94 #[.slice (fromA a c (h + k)) n (c - (h + k))] wx fun e w' => ∃ v, e = .returned v ∧ Own w' wx.heap.size v ((L.drop (h + k)).take n) ∧ Below wx.heap.size wx w' := by
      intro wx hs'
      have := clone_any (fromA a c (h + k)) (c - (h + k)) ((L.drop (h + k)).take n) wx (by rw [List.length_take, List.length_drop]; omega) hs'
      rw [List.length_take, List.length_drop, Nat.min_eq_left hs] at this
      exact this
    have hlB : ((L.drop (h + k)).take n).length = n := by rw [List.length_take, List.length_drop]; omega
    generalize (L.drop (h + k)).take n = B at *
    subst hlB
    have hr1 : L.length - (h + k) ≤ 1000000 := by omega
    have hBL : B.length ≤ 1000000 := by omega
    generalize L.length - (h + k) = r at *
    generalize t / 8 = q at *
    clear h2 hk hrd hg
    go_enter Try.func84, Try.ntmps84
    go_wp2_with fail
    refine cS.mono ?_
    rintro e w1 ⟨rfl, hb⟩
    have hbl := bnext hbn hb
    have K := (cells4_new w _ _ _ _).below hb
    have K' := Lib.hid K
    obtain ⟨k0, k1, k2, k3, kf⟩ := K
    clear cS hbn hb hz
    go_wp2_with fail
    obtain ⟨W, hW, K2', hbl2, -, hzW⟩ := set4 K'.out hbl (Nat.le_refl _) (.int .i64 q) (.int .i64 2) (.int .u64 0) (.slice none 0 0)
    rw [hW]
    clear k0 k1 k2 k3 kf hbl K' hW
    have K2 := Lib.hid K2'
    obtain ⟨k0, k1, k2, k3, kf⟩ := K2'
    refine (cR _ (sl_below HS.out hbl2)).mono ?_
    rintro e w2 ⟨rfl, rfl⟩
    clear cR
    go_wp2_with fail
    refine (cC _ (sl_below HS2.out hbl2)).mono ?_
    rintro e w3 ⟨v3, rfl, ho3, hb3⟩
    have K3 := Lib.hid (K2.out.below hb3)
    have hbl3 := bnext hbl2 hb3
    have hgl := K2.out.lt
    obtain ⟨a3, c3, rfl, -, -⟩ := Own.sl ho3
    clear k0 k1 k2 k3 kf cC hb3 K2
    obtain ⟨k0, k1, k2, k3, kf⟩ := K3.out
    go_wp2
    clear k0 k1 k2 k3 kf
    obtain ⟨W2, hW2, KE, hblE, ho4⟩ := set1_3 K3.out hbl3 (Nat.le_refl _) (.slice a3 B.length c3)
    rw [hW2]
    obtain ⟨W3, hW3, KE3, hblE3, ho5, -⟩ := set4 KE hblE (Nat.le_refl _) (.int .i64 q) (.int .i64 2) (.int .u64 0) (.slice a3 B.length c3)
    rw [hW3]
    have hO := (ho5 _ _ _ (ho4 _ _ _ ho3 hgl) hgl).base hbl2.size
    clear hW2 hW3 KE hblE
    obtain ⟨k0, k1, k2, k3, kf⟩ := KE3
    exact bodyPost_ret (v := .tuple #[.agg #[.int .i64 q, .int .i64 2, .int .u64 0, .slice a3 B.length c3], .int .i64 ((h + k + B.length : Nat) : Int), .int .i64 0]) (by simp [results, Try.results84, go_sem, k0, k1, k2, k3]) rfl ⟨_, rfl, hO, hblE3⟩
  · rw [one_short hrd hg h2 hk (by omega)]
    rw [List.length_drop] at hs
    have hr1 : L.length - (h + k) ≤ 1000000 := by omega
    have hr2 : L.length - (h + k) < n := by omega
    generalize L.length - (h + k) = r at *
    generalize t / 8 = q at *
    clear h2 hk hrd hg hs
    go_enter Try.func84, Try.ntmps84
    go_wp2_with fail
    refine cS.mono ?_
    rintro e w1 ⟨rfl, hb⟩
    have hbl := bnext hbn hb
    have K := (cells4_new w _ _ _ _).below hb
    have K' := Lib.hid K
    obtain ⟨k0, k1, k2, k3, kf⟩ := K
    clear cS hbn hb hz
    go_wp2_with fail
    obtain ⟨W, hW, K2', hbl2, -, hzW⟩ := set4 K'.out hbl (Nat.le_refl _) (.int .i64 q) (.int .i64 2) (.int .u64 0) (.slice none 0 0)
    rw [hW]
    clear k0 k1 k2 k3 kf hbl K' hW
    have K2 := Lib.hid K2'
    obtain ⟨k0, k1, k2, k3, kf⟩ := K2'
    refine (cR _ (sl_below HS.out hbl2)).mono ?_
    rintro e w2 ⟨rfl, rfl⟩
    clear cR
    go_wp2
    clear k0 k1 k2 k3 kf
    obtain ⟨W3, hW3, KE3, hblE3, -, -⟩ := set4 K2.out hbl2 (Nat.le_refl _) (.int .i64 0) (.int .i64 0) (.int .u64 0) (.slice none 0 0)
    rw [hW3]
    clear hW3
    obtain ⟨k0, k1, k2, k3, kf⟩ := KE3
    exact bodyPost_ret (v := .tuple #[.agg #[.int .i64 0, .int .i64 0, .int .u64 0, .slice none 0 0], .int .i64 0, .int .i64 5]) (by simp [results, Try.results84, go_sem, k0, k1, k2, k3]) rfl (oneR_err hblE3)
end Go.Proofs.Ytglglhcnofbagaa
namespace Go.Proofs.Ytglglhcnofbagaa
set_option maxRecDepth 100000
open Go.RowKit

/-- The four cells of a field whose bytes are the slice p.2. -/
def cellsOf (p : Fld × Value) : List Value := [.int .i64 p.1.num, .int .i64 p.1.kind, .int .u64 p.1.val, p.2]
def row4 (ps : List (Fld × Value)) : List Value := ps.flatMap cellsOf
theorem row4_get (ps : List (Fld × Value)) : ∀ (i j : Nat) (p : Fld × Value), ps[i]? = some p → j < 4 → (row4 ps)[i * 4 + j]? = (cellsOf p)[j]? := by
  induction ps with
  | nil => intro i j p h; simp at h
  | cons q ps ih =>
    intro i j p h hj
    have hr : row4 (q :: ps) = cellsOf q ++ row4 ps := rfl
    have hq : (cellsOf q).length = 4 := rfl
    rw [hr]
    cases i with
    | zero =>
      simp only [List.getElem?_cons_zero, Option.some.injEq] at h
      subst h
      rw [List.getElem?_append_left (by omega)]
      simp
    | succ i =>
      rw [List.getElem?_cons_succ] at h
      rw [List.getElem?_append_right (by omega), hq, show (i + 1) * 4 + j - 4 = i * 4 + j by omega]
      exact ih i j p h hj
theorem row4_snoc (ps : List (Fld × Value)) (p : Fld × Value) : row4 (ps ++ [p]) = row4 ps ++ cellsOf p := by
  simp only [row4, List.flatMap_append, List.flatMap_cons, List.flatMap_nil, List.append_nil]

/-- A row of fields that the call made. -/
def RowB (w : World) (B : Nat) (v : Value) (ps : List (Fld × Value)) : Prop :=
  w.ownsRow B 66 4 v ps.length (row4 ps) ∧ ∀ p, p ∈ ps → Own w B p.2 p.1.bytes
theorem RowB.nil (w : World) (B : Nat) : RowB w B (.slice none 0 0) [] := ⟨World.ownsRow_nil _ _ _ _, fun p h => by simp at h⟩
theorem RowB.below {w w' : World} {B : Nat} {v : Value} {ps : List (Fld × Value)} (h : RowB w B v ps) (hb : Below w.heap.size w w') : RowB w' B v ps := ⟨own_below h.1 hb, fun p hp => (h.2 p hp).below hb⟩
theorem RowB.base {w : World} {B B' : Nat} {v : Value} {ps : List (Fld × Value)} (h : RowB w B' v ps) (hB : B ≤ B') : RowB w B v ps := ⟨own_base h.1 hB, fun p hp => (h.2 p hp).base hB⟩
theorem RowB.form {w : World} {B : Nat} {v : Value} {ps : List (Fld × Value)} (h : RowB w B v ps) : ∃ a c, v = .slice a ps.length c ∧ ps.length ≤ c := by
  rcases h.1.2 with ⟨rfl, h0⟩ | ⟨g, cap, cur, rfl, _, _, hcap, _⟩
  · exact ⟨none, 0, by rw [h0], by omega⟩
  · exact ⟨_, cap, rfl, hcap⟩
/-- One field more. -/
theorem RowB.step {B : Nat} {w w2 : World} {v v' : Value} {ps : List (Fld × Value)} {p : Fld × Value} {o : Obj} (h : RowB w B v ps) (hc : Own w B p.2 p.1.bytes)
    (hown : w2.ownsRow B 66 4 v' (ps.length + 1) (row4 ps ++ cellsOf p)) (hgrow : (w.alloc o).grownBy w2 v.ownBlock) : RowB w2 B v' (ps ++ [p]) := by
  have keep : ∀ (c : Value) (ys : List Int), Own w B c ys → Own w2 B c ys := fun c ys hh => (World.ownsRow.alloc hh o).kept hgrow (own_ne hh h.1 (by decide))
  refine ⟨by rw [row4_snoc, List.length_append]; exact hown, fun q hq => ?_⟩
  rcases List.mem_append.1 hq with hq | hq
  · exact keep _ _ (h.2 q hq)
  · obtain rfl : q = p := by simpa using hq
    exact keep _ _ hc
theorem cells_of_new (w : World) (p : Fld × Value) (g : Nat) (hg : g = w.heap.size) : ∀ j u, (cellsOf p)[j]? = some u → (w.alloc (.cells #[.int .i64 p.1.num, .int .i64 p.1.kind, .int .u64 p.1.val, p.2] 66)).cell? ((⟨g, 0, none⟩ : Addr).add j) = some u := by
  subst hg
  intro j u hj
  rw [Go.WideShapes.add_plain, cell_of_row _ w.heap.size (0 + j) _ 66 (0, 0) (heap_alloc_new w _), Nat.zero_add]
  simpa [cellsOf] using hj
theorem cells_one {w : World} {B : Nat} {p : Fld × Value} {L : List Int} (h : Own w B p.2 L) : ∀ u ∈ cellsOf p, u.oneCell' = true := by
  obtain ⟨a, c, he, -, -⟩ := h.sl
  intro u hu
  simp only [cellsOf, List.mem_cons, List.not_mem_nil, or_false, he] at hu
  rcases hu with rfl | rfl | rfl | rfl <;> rfl

/-- What a call that reads a message returned: the fields, the offset, the error R. -/
def FldsR (w : World) (R : List Fld × Int × Int) (e : Ending) (w' : World) : Prop :=
  ∃ v ps, e = .returned (.tuple #[v, .int .i64 R.2.1, .int .i64 R.2.2]) ∧ ps.map Prod.fst = R.1 ∧ RowB w' w.heap.size v ps ∧ Below w.heap.size w w'
end Go.Proofs.Ytglglhcnofbagaa
namespace Go.Proofs.Ytglglhcnofbagaa
set_option maxRecDepth 100000
open Go.RowKit

theorem fldsR_err {w w' : World} {Res : List Fld × Int × Int} {i e0 : Int} {j : Int} (h : Res = ([], i, e0)) (hj : j = i) (hb : Below w.heap.size w w') : FldsR w Res (.returned (.tuple #[.slice none 0 0, .int .i64 j, .int .i64 e0])) w' := by
  subst h hj
  exact ⟨_, [], rfl, rfl, RowB.nil _ _, hb⟩
theorem fldsR_ok {w w' : World} {Res : List Fld × Int × Int} {v : Value} {ps : List (Fld × Value)} (h : Res = (ps.map Prod.fst, 0, 0)) (hr : RowB w' w.heap.size v ps) (hb : Below w.heap.size w w') : FldsR w Res (.returned (.tuple #[v, .int .i64 0, .int .i64 0])) w' := by
  subst h
  exact ⟨_, ps, rfl, rfl, hr, hb⟩

set_option maxHeartbeats 2000000 in
set_option maxRecDepth 100000 in
theorem code_fields (a : Option Addr) (c : Nat) (L : List Int) (w : World) (hL : L.length ≤ 1000000) (hr : Sl w a c L) (hw : ∀ x, x ∈ L → W8 x) (hc : L.length ≤ c) :
    Calls Try.prog 71 #[.slice a L.length c] w (FldsR w (flds L)) := by
  obtain ⟨i0, hi, hz0, hz1, hz2⟩ := info_parts info25
  have HI := Lib.hid hi
  have HZ0 := Lib.hid hz0
  have HZ1 := Lib.hid hz1
  have HZ2 := Lib.hid hz2
  have HD : Hid (flds L = fldsG (L.length + 1) [] 0 L) := rfl
  have HR := Lib.hid hr
  have HW := Lib.hid hw
  generalize flds L = Res at *
  clear hi hz0 hz1 hz2 hr hw
  go_enter Try.func71, Try.ntmps71
  go_wp2_with fail
  go_loopg [2, 5] L.length (fun g s2 s5 wx => ∃ (i f m : Nat) (ra : Option Addr) (R : List Int) (ps : List (Fld × Value)), s5 = .slice ra R.length m ∧ R.length ≤ m ∧ i + R.length ≤ L.length ∧ L.length ≤ i + R.length ∧ R.length < f ∧ ps.length ≤ 1024 ∧ Hid (Sl w ra m R) ∧ Hid (∀ x, x ∈ R → W8 x) ∧
    Hid (Res = fldsG f (ps.map Prod.fst) i R) ∧ Hid (RowB wx w.heap.size s2 ps) ∧ Below w.heap.size w wx ∧ R.length = g)
  case atStart => exact ⟨0, L.length + 1, c, a, L, [], rfl, hc, by omega, by omega, by omega, by simp, HR, HW, HD, RowB.nil _ _, Below.refl _ _, rfl⟩
  case round =>
    obtain ⟨i, f, m, ra, R, ps, rfl, hRm, hi1, hi2, hf, hps, hsl, hRw, hd, hrow, hb, rfl⟩ := hrel
    have hsz := hb.size
    obtain ⟨va, vc, rfl, hvc⟩ := hrow.out.form
    obtain ⟨f', rfl⟩ : ∃ f', f = f' + 1 := ⟨f - 1, by omega⟩
    by_cases h0 : R.length = 0
    · have hfin : Res = (ps.map Prod.fst, 0, 0) := by rw [hd.out, flds_end h0]
      have hlt : ¬ 0 < R.length := by omega
      have HFIN := Lib.hid hfin
      clear hd h0 hfin
      go_wp2
      go_ret3
      exact fldsR_ok HFIN.out hrow.out hb
    · have hpos : 0 < R.length := by omega
      by_cases h1 : ps.length = 1024
      · have hfin : Res = ([], (i : Int), 3) := by rw [hd.out, flds_limit h0 (by simp; omega)]
        have hq : ((ps.length : Int) == 1024) = true := by rw [h1]; rfl
        have HFIN := Lib.hid hfin
        clear hd h0 hfin h1
        go_wp2
        go_ret3
        exact fldsR_err HFIN.out (by omega) hb
      · have hq : ((ps.length : Int) == 1024) = false := by rw [beq_eq_false_iff_ne]; omega
        have cF := fun wx hs => code_first ra m R wx (by omega) hs hRw.out hRm
        rcases one_inv R hRw.out (by omega) with ⟨e0, ho, he⟩ | ⟨x, hx, ho, hle, -⟩
        · have hfin : Res = ([], (i : Int), e0) := by rw [hd.out, flds_err h0 (by simp; omega) ho he]
          rw [ho] at cF
          have h3 : (e0 != 0) = true := by simpa using he
          have h4 : (e0 == 0) = false := by simpa using he
          have HFIN := Lib.hid hfin
          clear hd h0 h1 ho he hfin
          go_wp2_with fail
          refine (cF _ (sl_below hsl.out hb)).mono ?_
          rintro e w2 ⟨v2, rfl, ho2, hb2⟩
          have hb3 := bnext hb hb2
          obtain ⟨a2, c2, rfl, -, -⟩ := ho2.sl
          clear cF hb2 ho2
          go_wp2
          go_ret3
          exact fldsR_err HFIN.out (by omega) (hb3.alloc hb3.size _)
        · have hd2 : Res = fldsG f' ((ps ++ [(x, Value.slice none 0 0)]).map Prod.fst) (i + (encF x).length) (R.drop (encF x).length) := by
            rw [hd.out, flds_next h0 (by simp; omega) ho]
            simp
          rw [ho] at cF
          have hps2 : ps.length + 1 ≤ 1024 := by omega
          have hs2 := encF_pos x
          have hlB := hx.2.2.2
          have hsl2 := fun wx => slice_from .i64 ra R.length m (encF x).length wx hle
          have HS2 := Lib.hid (sl_from hsl.out (encF x).length hRm)
          have HW2 := Lib.hid (drop_bytes hRw.out (encF x).length)
          have hlen : (R.drop (encF x).length).length = R.length - (encF x).length := List.length_drop
          generalize R.drop (encF x).length = R2 at *
          generalize (encF x).length = sz at *
          have HLEN := Lib.hid hlen
          have HD2 := Lib.hid hd2
          clear hd h0 h1 ho hd2 hlen
          go_wp2_with fail
          refine (cF _ (sl_below hsl.out hb)).mono ?_
          rintro e w2 ⟨v2, rfl, ho2, hb2⟩
          have hb3 := bnext hb hb2
          have hrow2 := hrow.out.below hb2
          obtain ⟨a2, c2, rfl, -, -⟩ := ho2.sl
          have HO2 := Lib.hid (ho2.base hsz)
          have HR2 := Lib.hid hrow2
          clear cF hb2 ho2 hrow hrow2
          go_wp2_with (at_builtin; refine wpList_append_own _ rfl _ _ 61 rfl w.heap.size 66 i0 (.agg #[.int .i64 0, .int .i64 0, .int .u64 0, .slice none 0 0]) 4 48 Try.underlying61 HI.out HZ0.out HZ1.out HZ2.out rfl (by decide) (.slice va ps.length vc) ps.length (row4 ps) rfl ((HR2.out.1.alloc _).alloc _) ⟨w2.heap.size + 1, 0, none⟩ 1 1 (cellsOf (x, .slice a2 x.bytes.length c2)) rfl rfl (cells_of_new _ (x, .slice a2 x.bytes.length c2) _ (by simp)) (cells_one (p := (x, .slice a2 x.bytes.length c2)) HO2.out) ?c1 ?c2 ?c3 ?_)
          case c1 => unfold maxLen; omega
          case c2 => omega
          case c3 => have := hb3.size; simp; omega
          intro v3 w3 hown3 hgrow3 _
          have HR3 := Lib.hid (RowB.step (p := (x, Value.slice a2 x.bytes.length c2)) (HR2.out.below ((Below.refl _ _).alloc (Nat.le_refl _) _)) (HO2.out.below ((Below.refl _ _).alloc (Nat.le_refl _) _)) hown3 hgrow3)
          have hb4 : Below w.heap.size w w3 := ((hb3.alloc hb3.size _).alloc (by have := hb3.size; simp; omega) _).grown hgrow3 (by have := hb3.size; simp; omega) (fun j hj => (HR2.out.1.lt j hj).1)
          clear hown3 hgrow3 HR2 HO2
          have HD3 : Hid (Res = fldsG f' ((ps ++ [(x, Value.slice a2 x.bytes.length c2)]).map Prod.fst) (i + sz) R2) := Lib.hid (HD2.out.trans (by simp))
          have h5 := HLEN.out
          have h6 : R2.length ≤ m - sz := by omega
          have h7 : i + sz + R2.length ≤ L.length := by omega
          have h8 : L.length ≤ i + sz + R2.length := by omega
          have h9 : R2.length < f' := by omega
          have h10 : R2.length < R.length := by omega
          have h11 : (ps ++ [(x, Value.slice a2 x.bytes.length c2)]).length ≤ 1024 := by rw [List.length_append, List.length_singleton]; omega
          clear h5 HD2
          go_wp2_with fail
          go_roundg R2.length
          case measure => exact h10
          case rel => exact ⟨i + sz, f', m - sz, fromA ra m sz, R2, _, by rw [HLEN.out], h6, h7, h8, h9, h11, HS2, HW2, HD3, HR3, hb4, rfl⟩
end Go.Proofs.Ytglglhcnofbagaa
namespace Go.Proofs.Ytglglhcnofbagaa
set_option maxRecDepth 100000
open Go.RowKit

theorem rread_err {a : Option Addr} {c : Nat} {L : List Int} {w : World} (hL : L.length ≤ 1000000) (hr : Sl w a c L) (hw : ∀ x, x ∈ L → W8 x) {e0 : Int} (h : rd 0 0 L = (0, 0, e0)) :
    Calls Try.prog 82 #[.slice a L.length c] w fun e w' => e = .returned (.tuple #[.int .u64 0, .int .i64 0, .int .i64 e0]) ∧ w = w' := by
  have := ref_read a c L w hL hr hw
  rw [h] at this
  exact this
theorem rread_ok {a : Option Addr} {c : Nat} {L : List Int} {w : World} (hL : L.length ≤ 1000000) (hr : Sl w a c L) (hw : ∀ x, x ∈ L → W8 x) {t : Int} {k : Nat} (h : rd 0 0 L = (t, (k : Int), 0)) :
    Calls Try.prog 82 #[.slice a L.length c] w fun e w' => e = .returned (.tuple #[.int .u64 t, .int .i64 (k : Int), .int .i64 0]) ∧ w = w' := by
  have := ref_read a c L w hL hr hw
  rw [h] at this
  exact this

theorem Cells4.far {w : World} {g : Nat} {c0 c1 c2 c3 : Value} (h : Cells4 w g c0 c1 c2 c3) {b o : Nat} (hp : b ≠ g) (u : Value) : Cells4 (w.setCell ⟨b, o, none⟩ u) g c0 c1 c2 c3 := by
  obtain ⟨h0, h1, h2, h3, hf⟩ := h
  exact ⟨(World.cell?_setCell_other _ _ _ _ (fun e => hp (congrArg Addr.block e))).trans h0, (World.cell?_setCell_other _ _ _ _ (fun e => hp (congrArg Addr.block e))).trans h1, (World.cell?_setCell_other _ _ _ _ (fun e => hp (congrArg Addr.block e))).trans h2, (World.cell?_setCell_other _ _ _ _ (fun e => hp (congrArg Addr.block e))).trans h3, fun o => (World.frozen?_setCell _ _ _ _).trans (hf o)⟩

set_option maxHeartbeats 2000000 in
set_option maxRecDepth 100000 in
theorem ref_one (a : Option Addr) (c : Nat) (L : List Int) (w : World) (hL : L.length ≤ 1000000) (hr : Sl w a c L) (hw : ∀ x, x ∈ L → W8 x) (hc : L.length ≤ c) :
    Calls Try.prog 61 #[.slice a L.length c] w (OneR w (onef L)) := by
  have hbn := (Below.refl w.heap.size w).alloc (Nat.le_refl _) (.cells #[.int .i64 0, .int .i64 0, .int .u64 0, .slice none 0 0] 66)
  rcases one_cases L hw with ⟨e0, h, he⟩ | ⟨t, h, ht0, ht1, hrd, hh0, hh10, hle, -, -, hcs⟩
  · rw [one_tag h he]
    have cS := rread_err hL (sl_below hr hbn) hw h
    have h1 : (e0 != 0) = true := by simpa using he
    have h2 : (e0 == 0) = false := by simpa using he
    clear h he
    go_enter Try.func61, Try.ntmps61
    go_wp2_with fail
    refine cS.mono ?_
    rintro e w1 ⟨rfl, rfl⟩
    clear cS
    go_wp2
    exact bodyPost_ret (v := .tuple #[.agg #[.int .i64 0, .int .i64 0, .int .u64 0, .slice none 0 0], .int .i64 0, .int .i64 e0]) (by simp [results, Try.results61, go_sem]) rfl (oneR_err hbn)
  have cS := rread_ok hL (sl_below hr hbn) hw hrd
  rcases hcs with hb | ⟨hg, hcs⟩
  · rw [one_bad hrd hb]
    unfold goodT at hb
    have HG := Lib.hid hb
    clear hrd hb
    go_enter Try.func61, Try.ntmps61
    go_wp2_with fail
    refine cS.mono ?_
    rintro e w1 ⟨rfl, rfl⟩
    clear cS
    go_wp2_with fail
    all_goals first
      | (exfalso; have hh := HG.out; clear HG; simp at *; omega)
      | exact bodyPost_ret (v := .tuple #[.agg #[.int .i64 0, .int .i64 0, .int .u64 0, .slice none 0 0], .int .i64 0, .int .i64 4]) (by simp [results, Try.results61, go_sem]) rfl (oneR_err hbn)
  obtain ⟨kd, hk, hkd⟩ : ∃ kd, t % 8 = kd ∧ (kd = 0 ∨ kd = 2) := ⟨_, rfl, hg.2.2⟩
  have HS := Lib.hid (sl_from hr h hc)
  have hsl := fun wx => slice_from .i64 a L.length c h wx hle
  have hbn2 : Below w.heap.size w ((w.alloc (.cells #[.int .i64 0, .int .i64 0, .int .u64 0, .slice none 0 0] 66)).alloc (.cells #[.int .i64 (t / 8), .int .i64 kd, .int .u64 0, .slice none 0 0] 66)) := hbn.alloc hbn.size _
  obtain ⟨g1, g2, -⟩ := id hg
  rcases hcs with ⟨e0, h2, he⟩ | ⟨n, k, hn, h2, hk0, hk10, hle2, -, -⟩
  · rw [one_len hrd hg h2 he]
    have cR : ∀ wx, Sl wx (fromA a c h) (c - h) (L.drop h) → Calls Try.prog 82 #[.slice (fromA a c h) (L.length - h) (c - h)] wx fun e w' => e = .returned (.tuple #[.int .u64 0, .int .i64 0, .int .i64 e0]) ∧ wx = w' := by
      intro wx hs
      have := rread_err (by rw [List.length_drop]; omega) hs (drop_bytes hw h) h2
      rw [List.length_drop] at this
      exact this
    have h1 : (e0 != 0) = true := by simpa using he
    have h2' : (e0 == 0) = false := by simpa using he
    clear h2 he hrd hg
    rcases hkd with rfl | rfl
    all_goals
      go_enter Try.func61, Try.ntmps61
      go_wp2_with fail
      refine cS.mono ?_
      rintro e w1 ⟨rfl, rfl⟩
      clear cS
      go_wp2_with fail
      refine (cR _ (sl_below HS.out hbn2)).mono ?_
      rintro e w2 ⟨rfl, rfl⟩
      clear cR
      go_wp2
      exact bodyPost_ret (v := .tuple #[.agg #[.int .i64 0, .int .i64 0, .int .u64 0, .slice none 0 0], .int .i64 0, .int .i64 e0]) (by simp [results, Try.results61, go_sem]) rfl (oneR_err hbn2)
  have cR : ∀ wx, Sl wx (fromA a c h) (c - h) (L.drop h) → Calls Try.prog 82 #[.slice (fromA a c h) (L.length - h) (c - h)] wx fun e w' => e = .returned (.tuple #[.int .u64 (n : Int), .int .i64 (k : Int), .int .i64 0]) ∧ wx = w' := by
    intro wx hs
    have := rread_ok (by rw [List.length_drop]; omega) hs (drop_bytes hw h) h2
    rw [List.length_drop] at this
    exact this
  have hn0 : 0 ≤ (n : Int) := by omega
  rcases hkd with rfl | rfl
  · rw [one_var hrd hg h2 hk]
    clear h2 hrd hg
    go_enter Try.func61, Try.ntmps61
    go_wp2_with fail
    refine cS.mono ?_
    rintro e w1 ⟨rfl, rfl⟩
    clear cS
    go_wp2_with fail
    refine (cR _ (sl_below HS.out hbn2)).mono ?_
    rintro e w2 ⟨rfl, rfl⟩
    clear cR
    go_wp2
    exact bodyPost_ret (v := .tuple #[.agg #[.int .i64 (t / 8), .int .i64 0, .int .u64 (n : Int), .slice none 0 0], .int .i64 ((h + k : Nat) : Int), .int .i64 0]) (by simp [results, Try.results61, go_sem]) rfl ⟨_, rfl, Own.nil _ _, ((Below.refl _ _).alloc (Nat.le_refl _) _).alloc (by simp) _⟩
  by_cases hs : n ≤ (L.drop (h + k)).length
  · rw [one_bytes hrd hg h2 hk hs]
    rw [List.length_drop] at hs
    have hlB : ((L.drop (h + k)).take n).length = n := by rw [List.length_take, List.length_drop]; omega
    have HS2 := Lib.hid (sl_take (sl_from hr (h + k) hc) n)
    have hsl3 : ∀ wx, (Instr.slice 29 (.slice a L.length c) (some (.int .i64 ((h : Int) + (k : Int)))) (some (.int .i64 ((h : Int) + (k : Int) + (n : Int)))) none).run Try.prog wx = .ok (.slice (fromA a c (h + k)) n (c - (h + k))) wx := fun wx => by
      have := slice_part .i64 .i64 a L.length c (h + k) (h + k + n) wx (by omega) (by omega)
      rw [Nat.add_sub_cancel_left] at this
      exact this
    generalize (L.drop (h + k)).take n = B at *
    subst hlB
    have hr2 : (B.length : Int) ≤ (L.length : Int) - (h : Int) - (k : Int) := by omega
    have hBL : B.length ≤ 1000000 := by omega
    obtain ⟨i0, hi, hz0, hz1, hz2⟩ := info_parts info5
    have HI := Lib.hid hi
    have HZ0 := Lib.hid hz0
    have HZ1 := Lib.hid hz1
    have HZ2 := Lib.hid hz2
    clear hi hz0 hz1 hz2 h2 hrd hg
    go_enter Try.func61, Try.ntmps61
    go_wp2_with fail
    refine cS.mono ?_
    rintro e w1 ⟨rfl, rfl⟩
    clear cS
    go_wp2_with fail
    refine (cR _ (sl_below HS.out hbn2)).mono ?_
    rintro e w2 ⟨rfl, rfl⟩
    clear cR
    obtain ⟨W2, hW2⟩ : ∃ W2, W2 = (w.alloc (.cells #[.int .i64 0, .int .i64 0, .int .u64 0, .slice none 0 0] 66)).alloc (.cells #[.int .i64 (t / 8), .int .i64 2, .int .u64 0, .slice none 0 0] 66) := ⟨_, rfl⟩
    have K0 : Cells4 W2 w.heap.size (.int .i64 0) (.int .i64 0) (.int .u64 0) (.slice none 0 0) := by rw [hW2]; exact (cells4_new w _ _ _ _).below ((Below.refl _ _).alloc (Nat.le_refl _) _)
    have K1 : Cells4 W2 (w.heap.size + 1) (.int .i64 (t / 8)) (.int .i64 2) (.int .u64 0) (.slice none 0 0) := by
      rw [hW2]
      have := cells4_new (w.alloc (.cells #[.int .i64 0, .int .i64 0, .int .u64 0, .slice none 0 0] 66)) (.int .i64 (t / 8)) (.int .i64 2) (.int .u64 0) (.slice none 0 0)
      simpa using this
    have hz : w.heap.size + 2 = W2.heap.size := by rw [hW2]; simp
    rw [← hW2] at hbn2 ⊢
    have HZ := Lib.hid hz
    clear hW2 hz
    have HS3 := Lib.hid (sl_below (sl_below HS2.out hbn2) ((Below.refl W2.heap.size W2).alloc (Nat.le_refl _) (.cells #[] 5)))
    go_wp2_with (at_builtin; refine append_src rfl _ _ 29 rfl W2.heap.size i0 Try.underlying29 HI.out HZ0.out HZ1.out HZ2.out _ 0 [] rfl (own_empty W2) (fromA a c (h + k)) B.length (c - (h + k)) B rfl rfl HS3.out ?c1 ?c2 ?_)
    case c1 => omega
    case c2 => simp
    intro v3 w3 ho3' hgrow
    have hb3 := after_append (w0 := W2) (Nat.le_refl _) (by simp) (own_empty W2) ((Below.refl _ W2).alloc (Nat.le_refl _) _) hgrow
    have ho3 : Own w3 W2.heap.size v3 B := by
      show w3.ownsRow _ _ _ _ _ _
      simpa using ho3'
    have K2 := Lib.hid (K0.below hb3)
    have K3 := Lib.hid (K1.below hb3)
    have hbl3 := bnext hbn2 hb3
    obtain ⟨a3, c3, rfl, -, -⟩ := Own.sl ho3
    clear K0 K1 hgrow ho3' hb3 HS HS2 HS3
    obtain ⟨k0, k1, k2, k3, kf⟩ := K3.out
    obtain ⟨j0, j1, j2, j3, jf⟩ := K2.out
    go_wp2_with fail
    clear k0 k1 k2 k3 kf j0 j1 j2 j3 jf
    have hzz := HZ.out
    have K4 := K2.out.far (b := w.heap.size + 1) (o := 3) (by omega) (.slice a3 B.length c3)
    have ho4 : Own (w3.setCell ⟨w.heap.size + 1, 3, none⟩ (.slice a3 B.length c3)) W2.heap.size (.slice a3 B.length c3) B := ownsRow_setCell_below ho3 (a := ⟨w.heap.size + 1, 3, none⟩) (by show w.heap.size + 1 < _; omega) _
    have hbl4 := hbl3.setCell (p := ⟨w.heap.size + 1, 3, none⟩) (by show w.heap.size ≤ w.heap.size + 1; omega) (.slice a3 B.length c3)
    generalize w3.setCell ⟨w.heap.size + 1, 3, none⟩ (.slice a3 B.length c3) = w4 at *
    obtain ⟨W3, hW3, KE3, hblE3, ho5, -⟩ := set4 K4 hbl4 (Nat.le_refl _) (.int .i64 (t / 8)) (.int .i64 2) (.int .u64 0) (.slice a3 B.length c3)
    rw [hW3]
    have hO := (ho5 _ _ _ ho4 (by omega)).base hbn2.size
    clear hW3 K4 hbl4 K2 K3
    obtain ⟨k0, k1, k2, k3, -⟩ := KE3
    exact bodyPost_ret (v := .tuple #[.agg #[.int .i64 (t / 8), .int .i64 2, .int .u64 0, .slice a3 B.length c3], .int .i64 ((h + k + B.length : Nat) : Int), .int .i64 0]) (by simp [results, Try.results61, go_sem, k0, k1, k2, k3]) rfl ⟨_, rfl, hO, hblE3⟩
  · rw [one_short hrd hg h2 hk (by omega)]
    rw [List.length_drop] at hs
    have hr2 : (L.length : Int) - (h : Int) - (k : Int) < (n : Int) := by omega
    clear h2 hrd hg hs
    go_enter Try.func61, Try.ntmps61
    go_wp2_with fail
    refine cS.mono ?_
    rintro e w1 ⟨rfl, rfl⟩
    clear cS
    go_wp2_with fail
    refine (cR _ (sl_below HS.out hbn2)).mono ?_
    rintro e w2 ⟨rfl, rfl⟩
    clear cR
    go_wp2
    exact bodyPost_ret (v := .tuple #[.agg #[.int .i64 0, .int .i64 0, .int .u64 0, .slice none 0 0], .int .i64 0, .int .i64 5]) (by simp [results, Try.results61, go_sem]) rfl (oneR_err hbn2)
end Go.Proofs.Ytglglhcnofbagaa
namespace Go.Proofs.Ytglglhcnofbagaa
set_option maxRecDepth 100000
open Go.RowKit

set_option maxHeartbeats 2000000 in
set_option maxRecDepth 100000 in
theorem ref_fields (a : Option Addr) (c : Nat) (L : List Int) (w : World) (hL : L.length ≤ 1000000) (hr : Sl w a c L) (hw : ∀ x, x ∈ L → W8 x) (hc : L.length ≤ c) :
    Calls Try.prog 36 #[.slice a L.length c] w (FldsR w (flds L)) := by
  obtain ⟨i0, hi, hz0, hz1, hz2⟩ := info_parts info25
  have HI := Lib.hid hi
  have HZ0 := Lib.hid hz0
  have HZ1 := Lib.hid hz1
  have HZ2 := Lib.hid hz2
  have HD : Hid (flds L = fldsG (L.length + 1) [] 0 (L.drop 0)) := rfl
  have HR := Lib.hid hr
  have HW := Lib.hid hw
  generalize flds L = Res at *
  clear hi hz0 hz1 hz2 hr hw
  go_enter Try.func36, Try.ntmps36
  go_wp2_with fail
  go_loopg [5, 6] L.length (fun g s2 s6 wx => ∃ (i f : Nat) (ps : List (Fld × Value)), s6 = .int .i64 (i : Int) ∧ i ≤ L.length ∧ L.length - i < f ∧ ps.length ≤ 1024 ∧
    Hid (Res = fldsG f (ps.map Prod.fst) i (L.drop i)) ∧ Hid (RowB wx w.heap.size s2 ps) ∧ Below w.heap.size w wx ∧ L.length - i = g)
  case atStart => exact ⟨0, L.length + 1, [], rfl, by omega, by omega, by simp, HD, RowB.nil _ _, Below.refl _ _, rfl⟩
  case round =>
    obtain ⟨i, f, ps, rfl, hi, hf, hps, hd, hrow, hb, rfl⟩ := hrel
    have hsz := hb.size
    obtain ⟨va, vc, rfl, hvc⟩ := hrow.out.form
    obtain ⟨f', rfl⟩ : ∃ f', f = f' + 1 := ⟨f - 1, by omega⟩
    have hlR : (L.drop i).length = L.length - i := List.length_drop
    by_cases h0 : L.length - i = 0
    · have hfin : Res = (ps.map Prod.fst, 0, 0) := by rw [hd.out, flds_end (by omega)]
      have hlt : ¬ i < L.length := by omega
      have HFIN := Lib.hid hfin
      clear hd h0 hfin hlR
      go_wp2
      go_ret3
      exact fldsR_ok HFIN.out hrow.out hb
    · have hpos : i < L.length := by omega
      by_cases h1 : ps.length = 1024
      · have hfin : Res = ([], (i : Int), 3) := by rw [hd.out, flds_limit (by omega) (by simp; omega)]
        have hq : (1024 : Int) ≤ (ps.length : Int) := by omega
        have HFIN := Lib.hid hfin
        clear hd h0 hfin h1 hlR
        go_wp2
        go_ret3
        exact fldsR_err HFIN.out rfl hb
      · have hq : ¬ (1024 : Int) ≤ (ps.length : Int) := by omega
        have hps2 : ps.length + 1 ≤ 1024 := by omega
        have HSR := Lib.hid (sl_from HR.out i hc)
        have hRw := Lib.hid (drop_bytes HW.out i)
        have cF : ∀ wx, Sl wx (fromA a c i) (c - i) (L.drop i) → Calls Try.prog 61 #[.slice (fromA a c i) (L.length - i) (c - i)] wx (OneR wx (onef (L.drop i))) := fun wx hs => by
          have := ref_one (fromA a c i) (c - i) (L.drop i) wx (by omega) hs hRw.out (by omega)
          rw [hlR] at this
          exact this
        have hsl := fun wx => slice_from .i64 a L.length c i wx hi
        rcases one_inv (L.drop i) hRw.out (by omega) with ⟨e0, ho, he⟩ | ⟨x, hx, ho, hle, -⟩
        · have hfin : Res = ([], (i : Int), e0) := by rw [hd.out, flds_err (by omega) (by simp; omega) ho he]
          rw [ho] at cF
          have h3 : (e0 != 0) = true := by simpa using he
          have h4 : (e0 == 0) = false := by simpa using he
          have HFIN := Lib.hid hfin
          clear hd h0 h1 ho he hfin hlR
          go_wp2_with fail
          refine (cF _ (sl_below HSR.out hb)).mono ?_
          rintro e w2 ⟨v2, rfl, ho2, hb2⟩
          have hb3 := bnext hb hb2
          obtain ⟨a2, c2, rfl, -, -⟩ := ho2.sl
          clear cF hb2 ho2
          go_wp2
          go_ret3
          exact fldsR_err HFIN.out rfl (hb3.alloc hb3.size _)
        · have hd2 : Res = fldsG f' ((ps ++ [(x, Value.slice none 0 0)]).map Prod.fst) (i + (encF x).length) (L.drop (i + (encF x).length)) := by
            rw [hd.out, flds_next (by omega) (by simp; omega) ho, List.drop_drop]
            simp
          rw [ho] at cF
          have hs2 := encF_pos x
          have hlB := hx.2.2.2
          rw [hlR] at hle
          generalize (encF x).length = sz at *
          have HD2 := Lib.hid hd2
          clear hd h0 h1 ho hd2 hlR
          go_wp2_with fail
          refine (cF _ (sl_below HSR.out hb)).mono ?_
          rintro e w2 ⟨v2, rfl, ho2, hb2⟩
          have hb3 := bnext hb hb2
          have hrow2 := hrow.out.below hb2
          obtain ⟨a2, c2, rfl, -, -⟩ := ho2.sl
          have HO2 := Lib.hid (ho2.base hsz)
          have HR2 := Lib.hid hrow2
          clear cF hb2 ho2 hrow hrow2
          go_wp2_with (at_builtin; refine wpList_append_own _ rfl _ _ 61 rfl w.heap.size 66 i0 (.agg #[.int .i64 0, .int .i64 0, .int .u64 0, .slice none 0 0]) 4 48 Try.underlying61 HI.out HZ0.out HZ1.out HZ2.out rfl (by decide) (.slice va ps.length vc) ps.length (row4 ps) rfl ((HR2.out.1.alloc _).alloc _) ⟨w2.heap.size + 1, 0, none⟩ 1 1 (cellsOf (x, .slice a2 x.bytes.length c2)) rfl rfl (cells_of_new _ (x, .slice a2 x.bytes.length c2) _ (by simp)) (cells_one (p := (x, .slice a2 x.bytes.length c2)) HO2.out) ?c1 ?c2 ?c3 ?_)
          case c1 => unfold maxLen; omega
          case c2 => omega
          case c3 => have := hb3.size; simp; omega
          intro v3 w3 hown3 hgrow3 _
          have HR3 := Lib.hid (RowB.step (p := (x, Value.slice a2 x.bytes.length c2)) (HR2.out.below ((Below.refl _ _).alloc (Nat.le_refl _) _)) (HO2.out.below ((Below.refl _ _).alloc (Nat.le_refl _) _)) hown3 hgrow3)
          have hb4 : Below w.heap.size w w3 := ((hb3.alloc hb3.size _).alloc (by have := hb3.size; simp; omega) _).grown hgrow3 (by have := hb3.size; simp; omega) (fun j hj => (HR2.out.1.lt j hj).1)
          clear hown3 hgrow3 HR2 HO2
          have HD3 : Hid (Res = fldsG f' ((ps ++ [(x, Value.slice a2 x.bytes.length c2)]).map Prod.fst) (i + sz) (L.drop (i + sz))) := Lib.hid (HD2.out.trans (by simp))
          have h7 : i + sz ≤ L.length := by omega
          have h9 : L.length - (i + sz) < f' := by omega
          have h10 : L.length - (i + sz) < L.length - i := by omega
          have h11 : (ps ++ [(x, Value.slice a2 x.bytes.length c2)]).length ≤ 1024 := by rw [List.length_append, List.length_singleton]; omega
          clear HD2
          go_wp2_with fail
          go_roundg (L.length - (i + sz))
          case measure => exact h10
          case rel => exact ⟨i + sz, f', _, by go_num, h7, h9, h11, HD3, HR3, hb4, rfl⟩
end Go.Proofs.Ytglglhcnofbagaa
