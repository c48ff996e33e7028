/-
 The program's apart: contract.
-/
import Derived.Test.YtgkckblcekbafaaEM
namespace Go.Proofs.Ytgkckblcekbafaa
attribute [local irreducible] wpList wpQuiet
open Go.RowKit
set_option maxRecDepth 100000
set_option linter.unusedSimpArgs false
set_option linter.unusedVariables false

theorem st_fld {w : World} {g t i : Nat} {cs : Array Value} (cs' : Array Value) {v : Value} {ty : TypeId} (h : Bx w g cs t) (hi : i < cs.size) (hc : cs.setIfInBounds i v = cs') (h1 : v.oneCell' = true) (hs : (Try.prog.info? ty).map (·.size) = some 1) : ∃ V2, (Instr.storeAt ty (.pointer (some ⟨g, i, none⟩)) v).run Try.prog w = .ok () V2 ∧ Bx V2 g cs' t ∧ But g w V2 :=
 ⟨_, run_store_cell h hi h1 hs, by rw [← hc]; exact h.setC v, But.setCell w i v⟩
theorem st_all {w : World} {g t : Nat} {cs cs' : Array Value} {ty : TypeId} (h : Bx w g cs t) (hz : cs.size = cs'.size) (h1 : cs'.all (·.oneCell') = true) (hs : (Try.prog.info? ty).map (·.size) = some cs'.size) : ∃ V2, (Instr.storeAt ty (.pointer (some ⟨g, 0, none⟩)) (.agg cs')).run Try.prog w = .ok () V2 ∧ Bx V2 g cs' t ∧ But g w V2 :=
 ⟨_, run_store_all h hz h1 hs, h.set, But.setRow w cs'⟩
theorem enA_one (e : En) (d : Ad) : (enA e d).all (·.oneCell') = true := by kernel_rfl
/-- An entry whose slices are rows of the call's own. -/
structure EnW (w : World) (B : Nat) (e : En) (d : Ad) : Prop where
 r : w.ownsRow B 5 1 (.slice d.ra e.raw.length d.rc) e.raw.length (bcells e.raw)
 p : w.ownsRow B 3 1 (.slice d.pa e.prs.length d.pc) e.prs.length (icells e.prs)
theorem EnW.i {w : World} {B : Nat} {e : En} {d : Ad} (h : EnW w B e d) : EnI w e d := by
 obtain ⟨a, c, e1, h1, -, h2⟩ := sl_own (n := e.raw.length) h.r
 obtain ⟨a2, c2, e2, h3, h4⟩ := own_cs h.p
 simp only [Value.slice.injEq, true_and] at e1 e2
 obtain ⟨e1a, e1b⟩ := e1
 obtain ⟨e2a, e2b⟩ := e2
 refine ⟨?_, ?_, ?_, ?_⟩
 ·rw [e1a, e1b]; exact h1
 ·rw [e2a]; exact h3
 ·rw [e1b]; exact h2
 ·rw [e2b]; exact h4
theorem EnW.ge {w : World} {B : Nat} {e : En} {d : Ad} (h : EnW w B e d) : ∀ k, EB e d k → B ≤ k := fun k hk => by
 rcases hk with ⟨-, x, hx, rfl⟩ | ⟨-, x, hx, rfl⟩
 ·exact (h.r.lt x.block (by rw [hx]; rfl)).1
 ·exact (h.p.lt x.block (by rw [hx]; rfl)).1
theorem EnW.below {w w' : World} {B : Nat} {e : En} {d : Ad} (h : EnW w B e d) (hb : Below w.heap.size w w') : EnW w' B e d := ⟨own_below h.r hb, own_below h.p hb⟩
theorem own_butq {w w' : World} {g B e size n c : Nat} {a : Option Addr} {xs : List Value} (h : w.ownsRow B e size (.slice a n c) n xs) (hb : But g w w') (hn : ∀ x, a = some x → x.block ≠ g) : w'.ownsRow B e size (.slice a n c) n xs := own_same h fun x hx => hb.2 _ (h.lt x.block (by rw [hx]; rfl)).2 (hn x hx)
def ApO (w : World) (E : En) (e : Ending) (w' : World) : Prop := ∃ d', e = .returned (.agg (enA E d')) ∧ EnW w' w.heap.size E d' ∧ Below w.heap.size w w'
theorem app_by {w : World} {a : Option Addr} {c : Nat} {L : List Int} (h : Sl w a c L) (hl : L.length ≤ 100000) : ∃ a2 c2 V, (Builtin.append_ #[48, 48] 48 #[.slice none 0 0, .slice a L.length c]).run Try.prog w = .ok (.slice a2 L.length c2) V ∧ V.ownsRow w.heap.size 5 1 (.slice a2 L.length c2) L.length (bcells L) ∧ Below w.heap.size w V := by
 obtain ⟨v, V, h1, h2, h3, -⟩ := append_cs (P := Try.prog) (t := 48) (m := L.length) (B := w.heap.size) (by kernel_rfl) info5 (by kernel_rfl) (by omega) (by omega) (World.ownsRow_nil _ _ _ _) a c (bcells L) (sl_cs h) (by simp [bcells]) (fun u hu => by
  obtain ⟨x, -, rfl⟩ := List.mem_map.1 hu
  rfl) (Nat.le_refl _) (Nat.zero_le _) hl
 rw [Nat.zero_add, List.nil_append] at h2
 obtain ⟨a2, c2, rfl, -, -⟩ := own_cs h2
 exact ⟨a2, c2, V, h1, h2, h3⟩
theorem app_is {w : World} {a : Option Addr} {c : Nat} {L : List Int} (h : Cs w a (icells L)) (hl : L.length ≤ 100000) : ∃ a2 c2 V, (Builtin.append_ #[23, 23] 23 #[.slice none 0 0, .slice a L.length c]).run Try.prog w = .ok (.slice a2 L.length c2) V ∧ V.ownsRow w.heap.size 3 1 (.slice a2 L.length c2) L.length (icells L) ∧ Below w.heap.size w V := by
 obtain ⟨v, V, h1, h2, h3, -⟩ := append_cs (P := Try.prog) (t := 23) (m := L.length) (B := w.heap.size) (by kernel_rfl) infoI (by kernel_rfl) (by omega) (by omega) (World.ownsRow_nil _ _ _ _) a c (icells L) h (by simp [icells]) (icells_one L) (Nat.le_refl _) (Nat.zero_le _) hl
 rw [Nat.zero_add, List.nil_append] at h2
 obtain ⟨a2, c2, rfl, -, -⟩ := own_cs h2
 exact ⟨a2, c2, V, h1, h2, h3⟩
/-- A new box that is written at once. -/
theorem new_bx {c c' : Array Value} {ty : TypeId} (w : World) (hz : c.size = c'.size) (h1 : c'.all (·.oneCell') = true) (hs : (Try.prog.info? ty).map (·.size) = some c'.size) : ∃ V, (Instr.storeAt ty (.pointer (some ⟨w.heap.size, 0, none⟩)) (.agg c')).run Try.prog (w.alloc (.cells c ty)) = .ok () V ∧ Below w.heap.size w V ∧ Bx V w.heap.size c' ty := by
 obtain ⟨V, hst, hX, hbt⟩ := st_all (cs' := c') (ty := ty) (heap_alloc_last w (.cells c ty) : Bx _ _ c ty) hz h1 hs
 exact ⟨V, hst, ((Below.refl _ w).alloc (Nat.le_refl _) _).trans hbt.1, hX⟩
theorem gw_make {P : Program} {ops : Array Oper} {rest : List Oper} {o : Oper} {a : Act} {w : World} {Q : Exit → Act → World → Prop} (hw : Region.wanted o (yielded ops a.tmps) = true) (d : Option Tmp) (hd : o.dst = d) (t : TypeId) (x y : Operand) (ho : o.op = .makeSlice t x y)
  (vx vy v : Value) (hx : a.eval x = vx) (hy : a.eval y = vy) (w2 : World) (hr : (Instr.makeSlice t vx vy).run P w = .ok v w2) (k : wpList P ops Q rest (a.put d v) w2) : wpList P ops Q (o :: rest) a w := by
 refine gw_new hw d hd v w2 ?_ k
 unfold execOp
 simp only [ho, hx, hy, Sem.run_bind, hr]
 rfl
theorem ffw {a b : Bool} (h : a = true → b = true) (hb : b = false) : a = false := by
 cases a with
 | false => rfl
 | true => rw [h rfl] at hb; cases hb
theorem sub_nat {ρ : Operand → Value} {o : Oper} {x y : Operand} (ho : o.op = .binOp .sub 3 x y 3) (n : Nat) (h : 0 < n) (h2 : n ≤ 1000000) (hx : ρ x = .int .i64 n) (hy : ρ y = .int .i64 1) (w : World) : (execOp ρ o).run Try.prog w = .ok (.value (.int .i64 ((n - 1 : Nat) : Int))) w := by
 have := sub_i ho n 1 (by omega) hx hy w
 rwa [show (n : Int) - 1 = ((n - 1 : Nat) : Int) by omega] at this
end Go.Proofs.Ytgkckblcekbafaa
