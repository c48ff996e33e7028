/-
  The contracts of the small functions on a field: valid, tag, second, right.
  Conditions: as typed.
-/
import Derived.Test.YtaaeepanelmgnaaWG1
import Derived.Lib.LazyBuf
namespace Go.Proofs.Ytaaeepanelmgnaa
set_option maxRecDepth 100000
open Go.RowKit

/-- Is the field valid? -/
def vldB (num kind val : Int) (n : Nat) : Bool := decide (1 ≤ num ∧ num ≤ 536870911 ∧ ((kind = 0 ∧ n = 0) ∨ (kind = 2 ∧ val = 0)))
theorem vldB_true {num kind val : Int} {n : Nat} (h : Vfi num kind val n) : vldB num kind val n = true := by unfold vldB Vfi at *; exact decide_eq_true h
theorem vldB_false {num kind val : Int} {n : Nat} (h : ¬ Vfi num kind val n) : vldB num kind val n = false := by unfold vldB Vfi at *; exact decide_eq_false h
theorem bret {num kind val : Int} {n : Nat} {b : Bool} (h : b = true ↔ Vfi num kind val n) : Ending.returned (.bool b) = .returned (.bool (vldB num kind val n)) := by
  by_cases hv : Vfi num kind val n
  · rw [vldB_true hv, h.2 hv]
  · rw [vldB_false hv]
    cases b with
    | false => rfl
    | true => exact absurd (h.1 rfl) hv

set_option maxHeartbeats 1000000 in
theorem code_valid (num kind val : Int) (a : Option Addr) (n c : Nat) (w : World) :
    Calls Try.prog 63 #[.agg #[.int .i64 num, .int .i64 kind, .int .u64 val, .slice a n c]] w fun e w' => e = .returned (.bool (vldB num kind val n)) ∧ Below w.heap.size w w' := by
  have hb := (Below.refl w.heap.size w).alloc (Nat.le_refl _) (.cells #[.int .i64 num, .int .i64 kind, .int .u64 val, .slice a n c] 54)
  go_enter Try.func63, Try.ntmps63
  go_wp2
  all_goals go_ret
  all_goals refine ⟨bret ?_, (Below.refl _ _).alloc (Nat.le_refl _) _⟩
  all_goals clear hb
  all_goals unfold Vfi
  all_goals simp at *
  all_goals omega
set_option maxHeartbeats 1000000 in
theorem ref_right (num kind val : Int) (a : Option Addr) (n c : Nat) (w : World) :
    Calls Try.prog 57 #[.agg #[.int .i64 num, .int .i64 kind, .int .u64 val, .slice a n c]] w fun e w' => e = .returned (.bool (vldB num kind val n)) ∧ Below w.heap.size w w' := by
  have hb := (Below.refl w.heap.size w).alloc (Nat.le_refl _) (.cells #[.int .i64 num, .int .i64 kind, .int .u64 val, .slice a n c] 54)
  go_enter Try.func57, Try.ntmps57
  go_wp2
  all_goals go_ret
  all_goals refine ⟨bret ?_, (Below.refl _ _).alloc (Nat.le_refl _) _⟩
  all_goals clear hb
  all_goals unfold Vfi
  all_goals simp at *
  all_goals omega

set_option maxHeartbeats 1000000 in
theorem code_tag (num kind val : Int) (a : Option Addr) (n c : Nat) (w : World) (h0 : 1 ≤ num) (h1 : num ≤ 536870911) (h2 : kind = 0 ∨ kind = 2) :
    Calls Try.prog 65 #[.agg #[.int .i64 num, .int .i64 kind, .int .u64 val, .slice a n c]] w fun e w' => e = .returned (.int .u64 (8 * num + kind)) ∧ Below w.heap.size w w' := by
  have hb := (Below.refl w.heap.size w).alloc (Nat.le_refl _) (.cells #[.int .i64 num, .int .i64 kind, .int .u64 val, .slice a n c] 54)
  have h3 : 0 ≤ kind := by omega
  have h4 : kind ≤ 2 := by omega
  clear h2
  go_enter Try.func65, Try.ntmps65
  go_wp2
  go_ret
  exact ⟨rfl, hb⟩
set_option maxHeartbeats 1000000 in
theorem code_second (num kind val : Int) (a : Option Addr) (n c : Nat) (w : World) (hn : n ≤ 1000000) :
    Calls Try.prog 66 #[.agg #[.int .i64 num, .int .i64 kind, .int .u64 val, .slice a n c]] w fun e w' => e = .returned (.int .u64 (secI kind val n)) ∧ Below w.heap.size w w' := by
  have hb := (Below.refl w.heap.size w).alloc (Nat.le_refl _) (.cells #[.int .i64 num, .int .i64 kind, .int .u64 val, .slice a n c] 54)
  by_cases h : kind = 2
  · subst h
    go_enter Try.func66, Try.ntmps66
    go_wp2
    go_ret
    exact ⟨rfl, hb⟩
  · have h2 : (kind == 2) = false := by simpa using h
    have hs : secI kind val n = val := by unfold secI; rw [if_neg h]
    have HS := Lib.hid hs
    clear hs h
    go_enter Try.func66, Try.ntmps66
    go_wp2
    go_ret
    exact ⟨by rw [HS.out]; rfl, hb⟩

/-- What a call of Clone makes. -/
theorem clone_any (a : Option Addr) (c : Nat) (L : List Int) (w : World) (hL : L.length ≤ 1000000) (hr : Sl w a c L) :
    Calls Try.prog 70 #[.slice a L.length c] w fun e w' => ∃ v, e = .returned v ∧ Own w' w.heap.size v L ∧ Below w.heap.size w w' := by
  obtain ⟨i0, hi, hz0, hz1, hz2⟩ := info_parts info5
  have HI := Lib.hid hi
  have HZ0 := Lib.hid hz0
  have HZ1 := Lib.hid hz1
  have HZ2 := Lib.hid hz2
  have HR1 := Lib.hid (sl_below hr ((Below.refl w.heap.size w).alloc (Nat.le_refl _) (.cells #[] 5)))
  clear hi hz0 hz1 hz2
  have hnil := fun (w : World) (a : Option Addr) (n c : Nat) => run_eql_slice_nil (P := Try.prog) w 39 5 a n c Try.underlying39
  rcases a with _ | x
  · have hn : L = [] ∧ c = 0 := by
      rcases hr with ⟨_, h1, h2⟩ | ⟨x, hx, _⟩
      · exact ⟨h2, h1⟩
      · cases hx
    obtain ⟨rfl, rfl⟩ := hn
    clear HR1 hr
    go_enter Try.func70, Try.ntmps70
    go_wp2
    go_ret
    exact ⟨_, rfl, Own.nil _ _, Below.refl _ _⟩
  · clear hr
    go_enter Try.func70, Try.ntmps70
    go_wp2_with (at_builtin; refine append_src rfl _ _ 39 rfl w.heap.size i0 Try.underlying39 HI.out HZ0.out HZ1.out HZ2.out _ 0 [] rfl (own_empty w) (some x) L.length c L rfl rfl HR1.out ?c1 ?c2 ?_)
    case c1 => omega
    case c2 => simp
    intro v' w1 hown hgrow
    have hbel := after_append (w0 := w) (Nat.le_refl _) (by simp) (own_empty w) ((Below.refl _ w).alloc (Nat.le_refl _) _) hgrow
    have HO : Hid (Own w1 w.heap.size v' L) := by
      show w1.ownsRow _ _ _ _ _ _
      simpa using hown
    clear hgrow hown HR1
    go_wp2
    go_ret
    exact ⟨_, rfl, HO.out, hbel⟩
end Go.Proofs.Ytaaeepanelmgnaa
