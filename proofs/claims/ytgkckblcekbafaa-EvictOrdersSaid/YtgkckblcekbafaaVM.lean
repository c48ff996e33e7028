/-
 The row that is sorted, in memory: its exchange, its comparison.
-/
import Derived.Test.YtgkckblcekbafaaVB
import Derived.Test.YtgkckblcekbafaaRL
import Derived.Lib.ReflectliteSwap
namespace Go.Proofs.Ytgkckblcekbafaa
open Go.RowKit
set_option maxRecDepth 100000
set_option linter.unusedSimpArgs false
set_option linter.unusedVariables false

/-- The box of the variable that the comparison reads; what the exchange is bound to. -/
def lsV (bs : Nat) : Value := .func (.func 33) #[] #[.pointer (some ⟨bs, 0, none⟩)]
noncomputable def swV (g n c : Nat) : Value := .func (.func 49) #[] #[.slice (some ⟨g, 0, none⟩) n c, typeHandle Try.prog 50]
noncomputable def lsA (bs g n c : Nat) : Array Value := #[lsV bs, swV g n c]
/-- The row holds L; besides it only new blocks were written since w0. -/
structure SW (w0 : World) (B g n c bs : Nat) (L : List Tg) (W : World) : Prop where
 len : L.length = n
 row : W.ownsRow B 50 41 (.slice (some ⟨g, 0, none⟩) n c) n (ens (L.map (·.1)))
 bx : Bx W bs #[.slice (some ⟨g, 0, none⟩) n c] 22
 ne : bs ≠ g
 but : ButS B (fun k => k = g) w0 W
section
variable {w0 w1 W W' : World} {B g n c bs : Nat} {L : List Tg}
theorem SW.gB (h : SW w0 B g n c bs L W) : B ≤ g := by obtain ⟨_, _, _, h3, _⟩ := own_row h.row; exact h3
theorem SW.gl (h : SW w0 B g n c bs L W) : g < W.heap.size := by obtain ⟨_, h1, _⟩ := own_row h.row; exact h1.lt
theorem SW.rebase (h : SW w0 B g n c bs L W) : SW W B g n c bs L W := ⟨h.len, h.row, h.bx, h.ne, .refl _ _ _⟩
theorem SW.on (h : SW w1 B g n c bs L W) (hb : ButS B (fun k => k = g) w0 w1) : SW w0 B g n c bs L W := ⟨h.len, h.row, h.bx, h.ne, hb.trans' h.but⟩
theorem SW.below (h : SW w0 B g n c bs L W) (hb : Below W.heap.size W W') : SW w0 B g n c bs L W' :=
 ⟨h.len, own_same h.row fun x hx => by cases hx; exact hb.block g h.gl, h.bx.below h.bx.lt hb, h.ne, h.but.trans' (.of_below hb (by have := h.gB; have := h.gl; omega))⟩
theorem SW.alloc (h : SW w0 B g n c bs L W) (o : Obj) : SW w0 B g n c bs L (W.alloc o) := h.below ((Below.refl _ _).alloc (Nat.le_refl _) _)
theorem SW.box {k t : Nat} {cs : Array Value} (h : SW w0 B g n c bs L W) (hb : Bx w0 k cs t) (hk : k ≠ g) : Bx W k cs t := hb.buts h.but hk
theorem getD_map (L : List Tg) (i : Nat) (hi : i < L.length) : (L.map (·.1)).getD i zEA = (L.getD i zT).1 := by
 simp only [List.getD_eq_getElem?_getD, List.getElem?_map, List.getElem?_eq_getElem hi, Option.map_some, Option.getD_some]
theorem SW.rg (h : SW w0 B g n c bs L W) {i : Nat} (hi : i < n) : W.rangeAt g (i * 41) (enp (L.getD i zT).1) := by
 have h1 : Cs W (some ⟨g, 0, none⟩) (ens (L.map (·.1))) := (own_nc h.row).1
 obtain ⟨b, off, e, -, h2⟩ := fl_range enp enp_len (by omega) zEA h1 (i := i) (by rw [List.length_map, h.len]; exact hi)
 cases e
 rw [getD_map _ _ (by rw [h.len]; exact hi), Nat.zero_add] at h2
 exact h2
theorem map_set (L : List Tg) (i : Nat) (x : Tg) : (L.set i x).map (·.1) = (L.map (·.1)).set i x.1 := List.map_set
theorem own_el {i : Nat} {x : En × Ad} {X : List (En × Ad)} (h : W.ownsRow B 50 41 (.slice (some ⟨g, 0, none⟩) n c) n (ens X)) (hi : i < X.length) : (W.setCells g (i * 41) (enp x)).ownsRow B 50 41 (.slice (some ⟨g, 0, none⟩) n c) n (ens (X.set i x)) := by
 have h1 := own_part (f := enp) enp_len zEA (i := i) (o := 0) (vs := enp x) (y := x) h hi (by rw [enp_len]; omega) (by rw [List.take_zero, List.nil_append, enp_len, List.drop_of_length_le (by rw [enp_len]; omega), List.append_nil])
 rwa [Nat.add_zero] at h1
/-- What the library's literal makes of the row. -/
theorem SW.swap (h : SW w0 B g n c bs L W) {i j : Nat} (hi : i < n) (hj : j < n) : ∃ W', (callFunc 49 #[.int .i64 i, .int .i64 j, .slice (some ⟨g, 0, none⟩) n c, typeHandle Try.prog 50]).run Try.prog W = .ok (.value (.tuple #[])) W' ∧ SW w0 B g n c bs (swL L i j) W' := by
 obtain ⟨i0, hie, -, hz1, -⟩ := info_parts infoEe
 have hl := h.len
 have hx := h.rg hi
 have hy := h.rg hj
 have fr : ∀ q, q < n → ∀ k, k < 41 → W.frozen? ⟨g, 0 + q * 41 + k, none⟩ = false := fun q hq k hk => by
  have := own_there (f := enp) (o := 0) (k := 41) enp_len h.row (by rw [List.length_map, hl]) (i := q) (by rw [List.length_map, hl]; exact hq) (by omega) k hk
  rw [show 0 + q * 41 + k = q * 41 + 0 + k by omega]
  exact this.2
 have hr := Lib.run_swap_cells (P := Try.prog) false 50 i0 hie (fun w => by kernel_rfl) g 0 n c i j hi hj (enp (L.getD i zT).1) (enp (L.getD j zT).1) (by rw [hz1]; rfl) (by rw [hz1]; rfl) (enp_one _) (enp_one _) W
  (fun k v hv => by rw [hz1, Nat.zero_add]; exact hx k v hv) (fun k v hv => by rw [hz1, Nat.zero_add]; exact hy k v hv) (fun k hk => by rw [hz1] at hk ⊢; exact fr i hi k hk) (fun k hk => by rw [hz1] at hk ⊢; exact fr j hj k hk)
 rw [hz1, Nat.zero_add, Nat.zero_add] at hr
 have o1 := own_el (x := (L.getD j zT).1) h.row (i := i) (by rw [List.length_map, hl]; exact hi)
 have o2 := own_el (x := (L.getD i zT).1) o1 (i := j) (by rw [List.length_set, List.length_map, hl]; exact hj)
 have b1 : ButS B (fun k => k = g) W (W.setCells g (i * 41) (enp (L.getD j zT).1)) := ButS.sets (S := fun k => k = g) h.gB rfl _ _ _
 have b2 : ButS B (fun k => k = g) (W.setCells g (i * 41) (enp (L.getD j zT).1)) ((W.setCells g (i * 41) (enp (L.getD j zT).1)).setCells g (j * 41) (enp (L.getD i zT).1)) := ButS.sets (S := fun k => k = g) h.gB rfl _ _ _
 refine ⟨_, ?_, by rw [sw_len]; exact hl, ?_, (h.bx.buts b1 h.ne).buts b2 h.ne, h.ne, h.but.trans' (b1.trans' b2)⟩
 ·rw [run_callFunc_extern Try.func49 (by kernel_rfl) (by kernel_rfl) (by kernel_rfl) (e := Extern.ReflectliteSwapper.swap false) (by kernel_rfl), hr]
  rfl
 ·unfold swL
  rw [map_set, map_set]
  exact o2
end
/-- .. at the operation. -/
theorem swap_op {ρ : Operand → Value} {o : Oper} {t x y : Operand} {W W' : World} {g n c : Nat} {i j : Int} (ho : o.op = .call { callee := .value t, args := #[x, y], argTypes := #[3, 3] }) (ht : ρ t = swV g n c) (hx : ρ x = .int .i64 i) (hy : ρ y = .int .i64 j)
  (hr : (callFunc 49 #[.int .i64 i, .int .i64 j, .slice (some ⟨g, 0, none⟩) n c, typeHandle Try.prog 50]).run Try.prog W = .ok (.value (.tuple #[])) W') : (execOp ρ o).run Try.prog W = .ok (.value (.tuple #[])) W' := by
 replace ht : ρ t = .func (.func 49) #[] #[.slice (some ⟨g, 0, none⟩) n c, typeHandle Try.prog 50] := ht
 unfold execOp
 simp only [ho, hx, hy, ht]
 go_simp
/-- .. of the comparison. -/
theorem less_op {ρ : Operand → Value} {o : Oper} {t x y : Operand} {W : World} {bs : Nat} {i j : Int} (ho : o.op = .call { callee := .value t, args := #[x, y], argTypes := #[3, 3] }) (ht : ρ t = lsV bs) (hx : ρ x = .int .i64 i) (hy : ρ y = .int .i64 j) :
  (execOp ρ o).run Try.prog W = .ok (.enter 33 #[.int .i64 i, .int .i64 j, .pointer (some ⟨bs, 0, none⟩)]) W := by
 replace ht : ρ t = .func (.func 33) #[] #[.pointer (some ⟨bs, 0, none⟩)] := ht
 unfold execOp
 simp only [ho, hx, hy, ht]
 go_simp
end Go.Proofs.Ytgkckblcekbafaa
