/-
 strings.Clone; the index in memory; the program's list and put: contracts.
-/
import Derived.Test.YtjononjpoeobcaaPI
import Derived.Lib.BufferWrite
import Derived.Lib.UnsafeStr
namespace Go.Proofs.Ytjononjpoeobcaa
attribute [local irreducible] wpList wpQuiet
open Go.RowKit
set_option maxRecDepth 100000
set_option linter.unusedSimpArgs false
set_option linter.unusedVariables false

theorem infoB8 : (Try.prog.info? 5).map (fun i => (i.zero, i.size, i.bytes)) = some (some (.int .u8 0), 1, 1) := by kernel_rfl
set_option maxHeartbeats 4000000 in
theorem q_clone0 (s : ByteArray) (w : World) (hlim : s.size ≤ 281474976710656) : Calls Try.prog 50 #[.string s] w fun e w' => e = .returned (.string s) ∧ Below w.heap.size w w' := by
 by_cases h0 : s.size = 0
 ·have hs : s = ⟨#[]⟩ := ByteArray.ext (Array.eq_empty_of_size_eq_zero h0)
  subst hs
  go_enter Try.func50, Try.ntmps50
  go_wp2
  go_ret
  exact ⟨rfl, Below.refl _ _⟩
 ·obtain ⟨i0, hi, hz0, hz1, hz2⟩ := info_parts infoB8
  have hinfo : (Try.prog.info? 5).map (·.size) = some 1 := by rw [hi]; simp [hz1]
  have hco : Try.prog.cellsOf 5 = 1 := by simp [Program.cellsOf, hi, hz1]
  obtain ⟨M, hM⟩ : ∃ M, M = madeCells (Value.int .u8 0).cells (((s.size : Nat) : Int).toNat * i0.size) := ⟨_, rfl⟩
  have hMs : M.size = s.size := by rw [hM, size_madeCells, hz1]; simp
  have hmk : ∀ W : World, (Instr.makeSlice 102 (.int .i64 (s.size : Int)) (.int .i64 (s.size : Int))).run Try.prog W = .ok (.slice (some ⟨W.heap.size, 0, none⟩) s.size s.size) (W.alloc (.cells M 5)) := fun W => by
   have h := run_make (P := Try.prog) W 102 5 i0 (.int .u8 0) Try.underlying102 hi hz0 .i64 .i64 (s.size : Int) (s.size : Int) (by omega) (by omega) (by rw [hz2]; omega) (by omega)
   rw [← hM] at h
   simpa using h
  clear hM
  have hcp := Lib.run_copy_row_string (P := Try.prog) (w.alloc (.cells M 5)) 102 9 3 5 w.heap.size 0 s.size s.size s M 5 Try.underlying102 hinfo (heap_alloc_new w _) (Nat.le_refl _) (by omega)
  obtain ⟨Y, hY⟩ : ∃ Y, Y = (M.toList.take 0 ++ Lib.byteCells s.data.toList ++ M.toList.drop (0 + s.size)).toArray := ⟨_, rfl⟩
  rw [← hY] at hcp
  have hYl : Y.toList = Lib.byteCells s.data.toList := by
   rw [hY, List.toList_toArray, List.take_zero, List.nil_append, List.drop_of_length_le (by rw [Array.length_toList]; omega), List.append_nil]
  have hYs : Y.size = s.size := by rw [← Array.length_toList, hYl, Lib.byteCells_length, ← Lib.size_eq]
  have hgY : ((w.alloc (.cells M 5)).setRow w.heap.size Y).heap[w.heap.size]? = some (.cells Y 5 (0, 0)) := setRow_heap _ _ M _ 5 (0, 0) (heap_alloc_new w _)
  have hne : s.data.toList ≠ [] := fun e => h0 (by rw [Lib.size_eq, e]; rfl)
  have hUS := Lib.run_unsafeString_row (P := Try.prog) ((w.alloc (.cells M 5)).setRow w.heap.size Y) 103 3 9 5 Try.underlying103 hco w.heap.size Y.size (by unfold World.shape?; rw [hgY]) s.data.toList hne (by rw [← Lib.size_eq]; omega) (by rw [← Lib.size_eq]; omega)
   (fun j x hx => Lib.cells_of_row hgY Y.size j _ (by rw [List.take_of_length_le (by rw [Array.length_toList]; exact Nat.le_refl _), hYl]; simp [Lib.byteCells, hx]))
  rw [← Lib.size_eq] at hUS
  clear hY
  go_enter Try.func50, Try.ntmps50
  go_wp2
  go_ret
  have hb1 : Below w.heap.size w (w.alloc (.cells M 5)) := (Below.refl _ w).alloc (Nat.le_refl _) _
  have hb2 : Below w.heap.size (w.alloc (.cells M 5)) ((w.alloc (.cells M 5)).setRow w.heap.size Y) := ⟨rfl, rfl, rfl, by simp, fun k hk => setRow_other _ _ _ _ (by omega)⟩
  exact ⟨rfl, Lib.below_freeze (hb1.trans hb2) (p := ⟨w.heap.size, 0, none⟩) (Nat.le_refl _) _⟩
set_option maxRecDepth 100000 in
set_option maxHeartbeats 8000000 in
theorem q_clone (s : ByteArray) (w : World) (hlim : s.size ≤ 281474976710656) : Calls Try.prog 43 #[.string s] w fun e w' => e = .returned (.string s) ∧ Below w.heap.size w w' := by
 have CC := q_clone0 s w hlim
 clear hlim
 go_enter Try.func43, Try.ntmps43
 go_upto_region 1 with fail
 refine wl <| gz1 (.string s) <| gzc (.string s) (fun w' => Below w.heap.size w w') (CC) (fun V hV => ?_)
 have HB := Lib.hid hV
 simp only [pu]
 refine gz1 (.string s) <| wn ?_
 simp only [pu]
 clear CC hV
 go_wp2_with fail
 go_ret
 exact ⟨rfl, HB.out⟩
/-- The index at block g stands for the rows m: its map at B gives each name its row. -/
structure Ri (w : World) (g B : Nat) (f : ByteArray → Option Value) (m : List Rw) : Prop where
 bx : Bx w g #[.map (some B), .int .i64 m.length] 62
 mp : Mf w B f
 no : ∀ n, lstE m n = [] → f n = none
 ye : ∀ n, lstE m n ≠ [] → ∃ v, f n = some v ∧ Rowen w 0 v (lstE m n)
 ap : ∀ n n' v v' k, f n = some v → f n' = some v' → v.ownBlock = some k → v'.ownBlock = some k → n = n'
def SpI (g B : Nat) (f : ByteArray → Option Value) (k : Nat) : Prop := k = g ∨ k = B ∨ ∃ n v, f n = some v ∧ v.ownBlock = some k
def RepI (w : World) (g : Nat) (S : Nat → Prop) (m : List Rw) : Prop := ∃ B f, Ri w g B f m ∧ S = SpI g B f
def UpdI (g B : Nat) (S : Nat → Prop) (m : List Rw) (w w' : World) : Prop := ∃ S', RepI w' g S' m ∧ (∀ k, S' k → S k ∨ w.heap.size ≤ k) ∧ ButS B S w w'
section
variable {w w' : World} {g B : Nat} {f : ByteArray → Option Value} {m : List Rw}
theorem Mf.map (h : Mf w B f) : ∃ es c, w.heap[B]? = some (.map es c) := by
 obtain ⟨L, ⟨es, c, h1, -⟩, -⟩ := h
 exact ⟨es, c, h1⟩
theorem Ri.row (h : Ri w g B f m) {n : ByteArray} {v : Value} (hf : f n = some v) : lstE m n ≠ [] ∧ Rowen w 0 v (lstE m n) := by
 have h1 : lstE m n ≠ [] := fun e => by rw [h.no n e] at hf; cases hf
 obtain ⟨v2, h2, h3⟩ := h.ye n h1
 rw [hf] at h2
 cases h2
 exact ⟨h1, h3⟩
theorem row_ne {v : Value} {E : List Eo} {k t : Nat} {cs : Array Value} (h : Rowen w 0 v E) (hk : v.ownBlock = some k) (hX : Bx w k cs t) (ht : t ≠ 73) : False := by
 rcases own_slice h with ⟨rfl, -⟩ | ⟨b, c, rfl, -, -, -⟩
 ·cases hk
 ·obtain ⟨cur, hc, -⟩ := own_row h
  simp only [Value.ownBlock, Option.some.injEq] at hk
  subst hk
  unfold Bx at hc hX
  rw [hc] at hX
  simp only [Option.some.injEq, Obj.cells.injEq] at hX
  exact ht hX.2.1.symm
theorem row_nm {v : Value} {E : List Eo} {k : Nat} {es : Array MapEntry} {c : Nat} (h : Rowen w 0 v E) (hk : v.ownBlock = some k) (hX : w.heap[k]? = some (.map es c)) : False := by
 rcases own_slice h with ⟨rfl, -⟩ | ⟨b, c, rfl, -, -, -⟩
 ·cases hk
 ·obtain ⟨cur, hc, -⟩ := own_row h
  simp only [Value.ownBlock, Option.some.injEq] at hk
  subst hk
  unfold Bx at hc
  rw [hc] at hX
  cases hX
theorem Ri.gB (h : Ri w g B f m) : g ≠ B := fun e => by
 obtain ⟨es, c, h1⟩ := h.mp.map
 have h2 := h.bx
 unfold Bx at h2
 rw [e, h1] at h2
 cases h2
theorem Ri.ng (h : Ri w g B f m) {n : ByteArray} {v : Value} (hf : f n = some v) : v.ownBlock ≠ some g := fun e => row_ne (h.row hf).2 e h.bx (by decide)
theorem Ri.nB (h : Ri w g B f m) {n : ByteArray} {v : Value} (hf : f n = some v) : v.ownBlock ≠ some B := fun e => by
 obtain ⟨es, c, h1⟩ := h.mp.map
 exact row_nm (h.row hf).2 e h1
theorem row_same {v : Value} {E : List Eo} (h : Rowen w 0 v E) (hs : ∀ k, v.ownBlock = some k → w'.heap[k]? = w.heap[k]?) : Rowen w' 0 v E := by
 obtain ⟨a, c, rfl, -, -⟩ := h.cs
 exact own_same2 h fun x hx => hs _ (by rw [hx]; rfl)
theorem Ri.inn (h : Ri w g B f m) : ∀ k, SpI g B f k → k < w.heap.size := fun k hk => by
 rcases hk with rfl | rfl | ⟨n, v, h1, h2⟩
 ·exact h.bx.lt
 ·exact h.mp.lt
 ·exact ((h.row h1).2.lt k h2).2
theorem Ri.same (h : Ri w g B f m) (hs : ∀ k, SpI g B f k → w'.heap[k]? = w.heap[k]?) : Ri w' g B f m :=
 ⟨(hs g (.inl rfl)).trans h.bx, h.mp.same (hs B (.inr (.inl rfl))), h.no, fun n hn => by
  obtain ⟨v, h1, h2⟩ := h.ye n hn
  exact ⟨v, h1, row_same h2 fun k hk => hs k (.inr (.inr ⟨n, v, h1, hk⟩))⟩, h.ap⟩
theorem RepI.inn {S : Nat → Prop} (h : RepI w g S m) : ∀ k, S k → k < w.heap.size := by
 obtain ⟨B, f, h1, rfl⟩ := h
 exact h1.inn
theorem RepI.same {S : Nat → Prop} (h : RepI w g S m) (hs : ∀ k, S k → w'.heap[k]? = w.heap[k]?) : RepI w' g S m := by
 obtain ⟨B, f, h1, rfl⟩ := h
 exact ⟨B, f, h1.same hs, rfl⟩
theorem RepI.below {S : Nat → Prop} (h : RepI w g S m) (hb : Below w.heap.size w w') : RepI w' g S m := h.same fun k hk => hb.block k (h.inn k hk)
/-- What a look-up of a name gives. -/
theorem Ri.look (h : Ri w g B f m) (n : ByteArray) : ∃ v, lkV (f n) false = v ∧ Rowen w 0 v (lstE m n) ∧ (f n = some v ∨ v = .slice none 0 0) := by
 cases hf : f n with
 | some v => exact ⟨v, rfl, (h.row hf).2, .inl rfl⟩
 | none =>
  have h1 : lstE m n = [] := by
   by_cases h2 : lstE m n = []
   ·exact h2
   ·obtain ⟨v, h3, -⟩ := h.ye n h2
    rw [hf] at h3; cases h3
  exact ⟨_, rfl, by rw [h1]; exact own_no _ _ _ _, .inr rfl⟩
end
set_option maxRecDepth 100000 in
set_option maxHeartbeats 8000000 in
theorem q_lst {w : World} {g B : Nat} {f : ByteArray → Option Value} {m : List Rw} (h : Ri w g B f m) (n : ByteArray) : Calls Try.prog 31 #[.pointer (some ⟨g, 0, none⟩), .string n] w fun e w' => e = .returned (lkV (f n) false) ∧ w = w' := by
 have hX := h.bx
 have HLK := Lib.hid (h.mp.look n false)
 generalize lkV (f n) false = v at *
 clear h
 go_enter Try.func31, Try.ntmps31
 go_upto_region 1 with fail
 refine wl <| gz2 (.pointer (some ⟨g, 0, none⟩)) (.bool false) <| wn ?_
 simp only [pu]
 go_upto_region 3 with fail
 refine wl <| gz3 (.pointer (some ⟨g, 0, none⟩)) (.pointer (some ⟨g, 0, none⟩)) (.pointer (some ⟨g, 0, none⟩)) <| gzl rfl ⟨g, 0, none⟩ (.map (some B)) (hX.load (i := 0) rfl (by kernel_rfl)) <| gz1 (.string n) <|
  gzv (v) (ex_look 60 (.tmp 10) (.tmp 11) false rfl (.map (some B)) (.string n) v (by kernel_rfl) (by kernel_rfl) HLK.out) <| gz1 (v) <| wn ?_
 simp only [pu]
 clear hX HLK
 go_wp2_with fail
 go_ret
 exact ⟨rfl, rfl⟩
set_option maxRecDepth 100000 in
set_option maxHeartbeats 8000000 in
theorem q_lst0 (n : ByteArray) (w : World) : Calls Try.prog 31 #[.pointer none, .string n] w fun e w' => e = .returned (.slice none 0 0) ∧ w = w' := by
 go_enter Try.func31, Try.ntmps31
 go_upto_region 1 with fail
 refine wl <| gz2 (.pointer none) (.bool true) <| wn ?_
 simp only [pu]
 go_upto_region 2 with fail
 refine wl <| gz1 (.slice none 0 0) <| wn ?_
 simp only [pu]
 go_wp2_with fail
 go_ret
 exact ⟨rfl, rfl⟩
theorem gw_dl {P : Program} {ops : Array Oper} {rest : List Oper} {o : Oper} {a : Act} {w : World} {Q : Exit → Act → World → Prop} (hg : o.guard = none) (hw : Region.wanted o (yielded ops a.tmps) = true) (hd : o.dst = none) (x y : Operand) (t u : TypeId) (ho : o.op = .call { callee := .builtin .delete, args := #[x, y], argTypes := #[t, u] }) (vx vy v : Value) (w2 : World) (hx : a.eval x = vx) (hy : a.eval y = vy) (hr : (Builtin.delete_ #[t, u] o.type #[vx, vy]).run P w = .ok v w2) (k : wpList P ops Q rest a w2) : wpList P ops Q (o :: rest) a w := by
 apply wpList_step
 intro K hK
 rw [if_pos hw, Oper.wp, ex_del x y t u ho vx vy v hx hy hr]
 refine hK _ _ ?_
 rw [hd]
 exact k
set_option maxRecDepth 100000 in
set_option maxHeartbeats 8000000 in
theorem put_no {w : World} {g B : Nat} {f : ByteArray → Option Value} {ln : Int} (hX : Bx w g #[.map (some B), .int .i64 ln] 62) (hM : Mf w B f) (s : ByteArray) (hs : s.size ≤ 1000000) (a : Option Addr) (k c : Nat) (hk : k = 0) : Calls Try.prog 33 #[.pointer (some ⟨g, 0, none⟩), .string s, .slice a k c] w fun e w' => e = .returned (.tuple #[]) ∧ Mf w' B (updF f s (none)) ∧ w.grownBy w' (some B) := by
 obtain ⟨V, hd, hM2, -, hgr⟩ := hM.del s 0
 subst hk
 have HE := Lib.hid (And.intro hM2 hgr)
 clear hM hM2 hgr
 go_enter Try.func33, Try.ntmps33
 go_upto_region 0 with fail
 refine wl <| gz2 (.slice a 0 c) (.int .i64 0) <| gzb (eql_nn rfl 0 0 (decide_eq_true rfl)) <| wn ?_
 simp only [pu]
 go_upto_region 1 with fail
 refine wl <| gz3 (.pointer (some ⟨g, 0, none⟩)) (.pointer (some ⟨g, 0, none⟩)) (.pointer (some ⟨g, 0, none⟩)) <| gzl rfl ⟨g, 0, none⟩ (.map (some B)) (hX.load (i := 0) rfl (by kernel_rfl)) <| gz1 (.string s) ?_
 simp only [pu]
 refine gw_dl rfl (by kernel_rfl) rfl (.tmp 12) (.tmp 13) 60 9 rfl (.map (some B)) (.string s) (.tuple #[]) V (by kernel_rfl) (by kernel_rfl) hd ?_
 apply wpList_nil
 clear hd hX
 go_wp2_with fail
 first | exact end_none rfl rfl ⟨rfl, HE.out⟩ | exact bodyPost_ret (v := .tuple #[]) (by kernel_rfl) rfl ⟨rfl, HE.out⟩ | exact bodyPost_ret (v := .tuple #[]) (by simp [results]) rfl ⟨rfl, HE.out⟩
set_option maxRecDepth 100000 in
set_option maxHeartbeats 8000000 in
theorem put_yes {w : World} {g B : Nat} {f : ByteArray → Option Value} {ln : Int} (hX : Bx w g #[.map (some B), .int .i64 ln] 62) (hM : Mf w B f) (s : ByteArray) (hs : s.size ≤ 1000000) (a : Option Addr) (k c : Nat) (hk : k ≠ 0) : Calls Try.prog 33 #[.pointer (some ⟨g, 0, none⟩), .string s, .slice a k c] w fun e w' => e = .returned (.tuple #[]) ∧ Mf w' B (updF f s (some (.slice a k c))) ∧ w.grownBy w' (some B) := by
 have HUP : Hid (∀ U, Below w.heap.size w U → ∃ V, (Instr.mapUpdate 60 (.map (some B)) (.string s) (.slice a k c)).run Try.prog U = .ok () V ∧ Mf V B (updF f s (some (.slice a k c))) ∧ w.grownBy V (some B)) := Lib.hid fun U hU => by
  obtain ⟨V, h1, h2, -, h3⟩ := (hM.same (hU.block B hM.lt)).put s (.slice a k c)
  exact ⟨V, h1, h2, grown_tr (grown_below hU) h3⟩
 have hX2 : Hid (∀ U, Below w.heap.size w U → Bx U g #[.map (some B), .int .i64 ln] 62) := Lib.hid fun U hU => hX.below hX.lt hU
 clear hM hX
 go_enter Try.func33, Try.ntmps33
 go_upto_region 0 with fail
 refine wl <| gz2 (.slice a k c) (.int .i64 k) <| gzb (eql_nn rfl k 0 (decide_eq_false hk)) <| wn ?_
 simp only [pu]
 go_upto_region 2 with fail
 refine wp_region_class_tail (C := fun U => Below w.heap.size w U) 7 (by kernel_rfl) (by kernel_rfl) ((Below.refl _ w).drew) ?_
 simp only [List.take_succ_cons, List.take_zero, List.drop_succ_cons, List.drop_zero]
 refine gy (.pointer (some ⟨g, 0, none⟩)) <| gy (.pointer (some ⟨g, 0, none⟩)) <| gy (.pointer (some ⟨g, 0, none⟩)) <| gyl rfl ⟨g, 0, none⟩ (.map (some B)) (fun U hU => (hX2.out U hU).load (i := 0) rfl (by kernel_rfl)) <| gy (.string s) ?_
 simp only [pu]
 refine gq_call (by kernel_rfl) (some 19) rfl 43 #[.string s] (.string s) (fun U hU => by kernel_rfl) (fun U hU => (q_clone s U (by omega)).mono fun e w' z => ⟨z.1, hU.trans (z.2.mono hU.size)⟩) ?_
 simp only [pu]
 refine gy (.slice a k c) ?_
 simp only [pu]
 apply wpQuiet_nil
 intro U hU
 obtain ⟨V, hup, hV⟩ := HUP.out U hU
 have HE := Lib.hid hV
 refine gw_skip (by kernel_rfl) rfl V (ex_put 60 (.tmp 17) (.tmp 19) (.tmp 20) rfl (.map (some B)) (.string s) (.slice a k c) (by kernel_rfl) (by kernel_rfl) (by kernel_rfl) hup) ?_
 apply wpList_nil
 clear hup hV hU HUP hX2
 go_wp2_with fail
 first | exact end_none rfl rfl ⟨rfl, HE.out⟩ | exact bodyPost_ret (v := .tuple #[]) (by kernel_rfl) rfl ⟨rfl, HE.out⟩ | exact bodyPost_ret (v := .tuple #[]) (by simp [results]) rfl ⟨rfl, HE.out⟩
end Go.Proofs.Ytjononjpoeobcaa
