/-
 What the walks share.
-/
import Derived.Test.YtgkckblcekbafaaVF
namespace Go.Proofs.Ytgkckblcekbafaa
open Go.RowKit
set_option maxRecDepth 100000
set_option linter.unusedSimpArgs false
set_option linter.unusedVariables false

theorem nm_start {w W1 : World} {a : Option Addr} {c : Nat} {L : List Int} (hk : Cs w a (icells L)) (hb : Below w.heap.size w W1) : Nm (W1.alloc (.cells #[.slice a L.length c, .int .i64 0] 56)) W1.heap.size a c L 0 ∧ Below w.heap.size w (W1.alloc (.cells #[.slice a L.length c, .int .i64 0] 56)) := by
 have h1 : Below W1.heap.size W1 (W1.alloc (.cells #[.slice a L.length c, .int .i64 0] 56)) := (Below.refl _ W1).alloc (Nat.le_refl _) _
 refine ⟨⟨heap_alloc_last W1 _, (hk.below hb).below h1, fun hne x hx => ?_⟩, hb.trans (h1.mono hb.size)⟩
 have := cs_rlt hk x.block ⟨fun e => hne (by cases L with | nil => rfl | cons y r => simp [icells] at e), x, hx, rfl⟩
 have := hb.size
 omega
theorem EnS.xr {w0 V : World} {g c N c2 n : Nat} {a a2 : Option Addr} {L : List Int} {X : List (En × Ad)} (h : EnS w0 V g c a L N (.slice a2 n c2) X) : Xr V a2 X := ⟨(own_nc h.row).1, en_sub fun x hx => (h.own x hx).i⟩
theorem raw_few {X : List (En × Ad)} (h : ∀ x ∈ X, x.1.snd ∈ nms ∧ x.1.raw.length ≤ 8 ∧ x.1.prs.length ≤ 2) (hl : X.length ≤ 10) : rawL (lE X) ≤ 80 := by
 have : ∀ Y : List (En × Ad), (∀ x ∈ Y, x.1.raw.length ≤ 8) → rawL (lE Y) ≤ 8 * Y.length := fun Y => by
  induction Y with
  | nil => intro _; simp [lE, rawL]
  | cons y r ih =>
   intro hy
   have h1 := ih fun x hx => hy x (by simp [hx])
   have h2 := hy y (by simp)
   simp only [lE, List.map_cons, rawL, List.length_cons] at h1 ⊢
   omega
 have h2 := this X fun x hx => (h x hx).2.1
 omega
theorem eql_b {ρ : Operand → Value} {o : Oper} {x y : Operand} (ho : o.op = .binOp .eql 4 x y 4) (a b : Bool) {t : Bool} (ht : (a == b) = t) (hx : ρ x = .bool a) (hy : ρ y = .bool b) (w : World) : (execOp ρ o).run Try.prog w = .ok (.value (.bool t)) w := by
 unfold execOp
 subst ht
 cases a <;> cases b <;> go_simp
theorem neq_b {ρ : Operand → Value} {o : Oper} {x y : Operand} (ho : o.op = .binOp .neq 4 x y 4) (a b : Bool) {t : Bool} (ht : (a != b) = t) (hx : ρ x = .bool a) (hy : ρ y = .bool b) (w : World) : (execOp ρ o).run Try.prog w = .ok (.value (.bool t)) w := by
 unfold execOp
 subst ht
 cases a <;> cases b <;> go_simp
end Go.Proofs.Ytgkckblcekbafaa
