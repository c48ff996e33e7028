/-
 Entries in rows; the reference's At, Bytes, SameEntries: contracts.
-/
import Derived.Test.YtgkckblcekbafaaMN
import Derived.Test.YtgkckblcekbafaaPL
namespace Go.Proofs.Ytgkckblcekbafaa
open Go.RowKit
set_option maxRecDepth 100000
set_option linter.unusedSimpArgs false
set_option linter.unusedVariables false

abbrev zEA : En × Ad := (zEn, zAd)
def enp (x : En × Ad) : List Value := enl x.1 x.2
theorem enp_len (x : En × Ad) : (enp x).length = 41 := rfl
theorem enp_one (x : En × Ad) : ∀ u ∈ enp x, u.oneCell' = true := en_one x.1 x.2
def ens (X : List (En × Ad)) : List Value := X.flatMap enp
theorem ens_len (X : List (En × Ad)) : (ens X).length = X.length * 41 := fl_len enp enp_len X
def lE (X : List (En × Ad)) : List En := X.map (·.1)
theorem lE_len (X : List (En × Ad)) : (lE X).length = X.length := List.length_map ..
theorem lE_at (X : List (En × Ad)) (i : Nat) (hi : i < X.length) : (lE X).getD i zEn = (X.getD i zEA).1 := by
 unfold lE
 rw [List.getD_eq_getElem?_getD, List.getElem?_map, List.getElem?_eq_getElem hi, List.getD_eq_getElem?_getD, List.getElem?_eq_getElem hi]
 rfl
/-- Entries in a row. -/
structure Xr (w : World) (a : Option Addr) (X : List (En × Ad)) : Prop where
 cs : Cs w a (ens X)
 en : ∀ i, i < X.length → EnI w (X.getD i zEA).1 (X.getD i zEA).2
/-- Their blocks. -/
def XrB (a : Option Addr) (X : List (En × Ad)) (k : Nat) : Prop := rb a (ens X) k ∨ ∃ i, i < X.length ∧ EB (X.getD i zEA).1 (X.getD i zEA).2 k
section
variable {w w' : World} {a : Option Addr} {X : List (En × Ad)}
theorem Xr.lt (h : Xr w a X) : ∀ k, XrB a X k → k < w.heap.size := fun k hk => hk.elim (cs_rlt h.cs k) fun ⟨i, hi, q⟩ => (h.en i hi).lt k q
theorem Xr.same (h : Xr w a X) (hs : ∀ k, XrB a X k → w'.heap[k]? = w.heap[k]?) : Xr w' a X := ⟨cs_same h.cs fun k hk => hs k (.inl hk), fun i hi => (h.en i hi).same fun k hk => hs k (.inr ⟨i, hi, hk⟩)⟩
theorem Xr.below (h : Xr w a X) (hb : Below w.heap.size w w') : Xr w' a X := h.same fun k hk => hb.block k (h.lt k hk)
theorem Xr.rg (h : Xr w a X) {i : Nat} (hi : i < X.length) : ∃ b off, a = some ⟨b, off, none⟩ ∧ b < w.heap.size ∧ w.rangeAt b (off + i * 41) (enp (X.getD i zEA)) := fl_range enp enp_len (by omega) zEA h.cs hi
theorem Xr.nil (w : World) (a : Option Addr) : Xr w a [] := ⟨Cs.nil _ _, fun i hi => by cases hi⟩
end
theorem idx_en (b off n c k : Nat) (hk : k < n) (V : World) (ρ : Operand → Value) (o : Oper) {x y : Operand} (ho : o.op = .indexAddr 22 x y) (hx : ρ x = .slice (some ⟨b, off, none⟩) n c) (hy : ρ y = .int .i64 k) : (execOp ρ o).run Try.prog V = .ok (.value (.pointer (some ⟨b, off + k * 41, none⟩))) V := by
 have hs : (sizeOf (Try.prog.elem 22)).run Try.prog V = .ok 41 V := by kernel_rfl
 have hlm : (k : Int) < (n : Int) := by omega
 unfold execOp
 simp only [ho, hx, hy]
 go_simp
theorem map_beq (a b : Nat → Int) : ((List.range 32).map a == (List.range 32).map b) = keq a b := by
 unfold keq
 rw [Bool.eq_iff_iff]
 simp
theorem eql_kk {ρ : Operand → Value} {o : Oper} {x y : Operand} (ho : o.op = .binOp .eql 47 x y 47) (a b : Nat → Int) {t : Bool} (ht : keq a b = t) (hx : ρ x = .agg (kcA a)) (hy : ρ y = .agg (kcA b)) (w : World) : (execOp ρ o).run Try.prog w = .ok (.value (.bool t)) w := by
 have := eq_key ho ((List.range 32).map a) ((List.range 32).map b) (by simp) (by simp) hx hy w
 rwa [map_beq, ht] at this
theorem load_kb {w : World} {g : Nat} {k : Nat → Int} (h : Bx w g (kcA k) 47) : (Instr.loadAt 47 (.pointer (some ⟨g, 0, none⟩))).run Try.prog w = .ok (.agg (kcA k)) w := run_loadAt_mid w g 0 47 (kcl k) _ (bx_range (cs := kcl k) h) Try.underlying47 rfl (by kernel_rfl)
def atV (k : Nat → Int) (L : List En) : Int := if atL k L < L.length then (atL k L : Int) else -1
theorem atV_here {k : Nat → Int} {L : List En} {i : Nat} (hi : i < L.length) (h1 : keq (L.getD i zEn).k k = true) (h0 : ∀ j, j < i → keq (L.getD j zEn).k k = false) : atV k L = i := by
 have := atL_eq hi h1 h0
 unfold atV
 rw [this, if_pos hi]
theorem atV_none {k : Nat → Int} {L : List En} (h0 : ∀ j, j < L.length → keq (L.getD j zEn).k k = false) : atV k L = -1 := by
 have := atL_end h0
 unfold atV
 rw [this, if_neg (Nat.lt_irrefl _)]
theorem raw_step (L : List En) (i : Nat) (h : i < L.length) : rawL (L.take (i + 1)) = rawL (L.take i) + (L.getD i zEn).raw.length := by
 rw [← take_snoc L i h, raw_app, List.getD_eq_getElem?_getD, List.getElem?_eq_getElem h]
 simp [rawL]
end Go.Proofs.Ytgkckblcekbafaa
