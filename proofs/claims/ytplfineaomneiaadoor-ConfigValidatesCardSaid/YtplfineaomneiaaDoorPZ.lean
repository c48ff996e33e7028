/-
 The statements' parses; bytes in memory.
-/
import Derived.Test.YtplfineaomneiaaDoorKN
namespace Go.Proofs.YtplfineaomneiaaDoor
attribute [local irreducible] wpList wpQuiet
open Go.RowKit
set_option maxRecDepth 100000
set_option linter.unusedSimpArgs false
set_option linter.unusedVariables false

set_option maxRecDepth 100000 in
set_option maxHeartbeats 8000000 in
theorem r_parses {w0 : World} (HQ : Prg w0) (s : ByteArray) (hs : s.size ≤ 1000000) (w : World) (hw : Below w0.heap.size w0 w) : Calls Tryd.prog 19 #[.string s] w fun e w' => e = .returned (.bool true) ∧ Below w.heap.size w w' := by
 have CP := HQ.p s hs w hw
 have CR := fun V => r_parse s V hs
 unfold parV at CP CR
 generalize (parX (nums s)).1 = c at *
 generalize (parX (nums s)).2.1 = ln at *
 generalize (parX (nums s)).2.2 = er at *
 have HEQ := Lib.hid fun (ρ : Operand → Value) (o : Oper) (x y : Operand) (ho : o.op = .binOp .eql 24 x y 24) (hx : ρ x = .agg (cfA c)) (hy : ρ y = .agg (cfA c)) (w : World) => eql_C ho c hx hy w
 have LD := lda c
 have NB := fun V => new_bx (c := #[.int .i64 0, .int .i64 0, .int .i64 0, .int .i64 0, .int .i64 0, .int .i64 0, .bool false, .int .i64 0, .int .i64 0, .int .u64 0, .int .i64 0, .int .i64 0]) (c' := cfA c) (ty := 24) V rfl (by kernel_rfl) (by kernel_rfl)
 generalize cfA c = CC at *
 clear HQ hs hw
 go_enter Tryd.func19, Tryd.ntmps19
 go_upto_region 1 with fail
 refine wl <| gz1 (.string s) <| gzc (.tuple #[.agg CC, .int .i64 (ln : Nat), .int .i64 er]) (fun w' => Below w.heap.size w w') (CP) (fun V1 hb3 => ?_)
 obtain ⟨V2, hst3, hbs3, hX3⟩ := NB V1
 simp only [pu]
 refine gz4 (.tuple #[.agg CC, .int .i64 (ln : Nat), .int .i64 er]) (.agg CC) (.int .i64 (ln : Nat)) (.int .i64 er) ?_
 simp only [pu]
 refine run_to rfl (some 3) rfl (.pointer (some ⟨V1.heap.size, 0, none⟩)) (V1.alloc (.cells #[.int .i64 0, .int .i64 0, .int .i64 0, .int .i64 0, .int .i64 0, .int .i64 0, .bool false, .int .i64 0, .int .i64 0, .int .u64 0, .int .i64 0, .int .i64 0] 24)) (by kernel_rfl) ?_
 simp only [pu]
 refine gzs rfl (hst3) <| gz2 (.int .i64 (ln : Nat)) (.int .i64 er) <| wn ?_
 simp only [pu]
 have HB2 := Lib.hid (hb3.trans (hbs3.mono hb3.size))
 obtain ⟨g3, hg3⟩ : ∃ g, V1.heap.size = g := ⟨_, rfl⟩
 rw [hg3] at hX3
 simp only [hg3]
 clear hst3 hbs3 hb3 hg3 CP
 go_upto_region 2 with fail
 refine wl <| gz1 (.string s) <| gzc (.tuple #[.agg CC, .int .i64 (ln : Nat), .int .i64 er]) (fun w' => Below V2.heap.size V2 w') (CR V2) (fun V3 hb6 => ?_)
 obtain ⟨V4, hst6, hbs6, hX6⟩ := NB V3
 simp only [pu]
 refine gz4 (.tuple #[.agg CC, .int .i64 (ln : Nat), .int .i64 er]) (.agg CC) (.int .i64 (ln : Nat)) (.int .i64 er) ?_
 simp only [pu]
 refine run_to rfl (some 6) rfl (.pointer (some ⟨V3.heap.size, 0, none⟩)) (V3.alloc (.cells #[.int .i64 0, .int .i64 0, .int .i64 0, .int .i64 0, .int .i64 0, .int .i64 0, .bool false, .int .i64 0, .int .i64 0, .int .u64 0, .int .i64 0, .int .i64 0] 24)) (by kernel_rfl) ?_
 simp only [pu]
 refine gzs rfl (hst6) <| gz2 (.int .i64 (ln : Nat)) (.int .i64 er) <| wn ?_
 simp only [pu]
 have HB4 := Lib.hid ((HB2.out.trans (hb6.mono HB2.out.size)).trans (hbs6.mono (HB2.out.trans (hb6.mono HB2.out.size)).size))
 have hX34 := (hX3.below hX3.lt hb6).below (hX3.below hX3.lt hb6).lt hbs6
 obtain ⟨g6, hg6⟩ : ∃ g, V3.heap.size = g := ⟨_, rfl⟩
 rw [hg6] at hX6
 simp only [hg6]
 have hl3 := LD _ _ hX34
 have hl6 := LD _ _ hX6
 clear hst6 hbs6 hb6 hg6 CR HB2 hX3 hX34 hX6 NB LD
 go_upto_region 3 with fail
 refine wl <| gzl rfl ⟨g3, 0, none⟩ (.agg CC) (hl3) <| gzl rfl ⟨g6, 0, none⟩ (.agg CC) (hl6) <| gzv (.bool true) (HEQ.out _ _ _ _ rfl (by kernel_rfl) (by kernel_rfl) _) <| gz3 (.bool true) (.int .i64 (ln : Nat)) (.int .i64 (ln : Nat)) <|
  gzb (eql_nn rfl ln ln (decide_eq_true rfl)) <| gz4 (.bool true) (.bool true) (.int .i64 er) (.int .i64 er) <| gzb (eql_e rfl er er (decide_eq_true rfl)) <| gz2 (.bool true) (.bool true) <| wn ?_
 simp only [pu]
 clear hl3 hl6 HEQ
 go_wp2_with fail
 go_ret
 exact ⟨rfl, HB4.out⟩
/-- Bytes in a row. -/
def u8s (L : List Int) : List Value := L.map (Value.int .u8)
theorem u8s_len (L : List Int) : (u8s L).length = L.length := List.length_map ..
theorem u8s_at (L : List Int) (k : Nat) (h : k < L.length) : (u8s L)[k]? = some (.int .u8 (L.getD k 0)) := by
 unfold u8s
 rw [List.getElem?_map, List.getElem?_eq_getElem h, List.getD_eq_getElem?_getD, List.getElem?_eq_getElem h]
 rfl
theorem u8_get {w : World} {a : Option Addr} {L : List Int} (h : Cs w a (u8s L)) {k : Nat} (hk : k < L.length) : ∃ b off, a = some ⟨b, off, none⟩ ∧ b < w.heap.size ∧ w.cell? ⟨b, off + k, none⟩ = some (.int .u8 (L.getD k 0)) := h _ _ (u8s_at L k hk)
theorem idx_u8 (b off n c k : Nat) (hk : k < n) (V : World) (ρ : Operand → Value) (o : Oper) {x y : Operand} (ho : o.op = .indexAddr 38 x y) (hx : ρ x = .slice (some ⟨b, off, none⟩) n c) (hy : ρ y = .int .i64 k) : (execOp ρ o).run Tryd.prog V = .ok (.value (.pointer (some ⟨b, off + k, none⟩))) V := by
 have hs : (sizeOf (Tryd.prog.elem 38)).run Tryd.prog V = .ok 1 V := by kernel_rfl
 have hlm : (k : Int) < (n : Int) := by omega
 unfold execOp
 simp only [ho, hx, hy]
 go_simp
theorem idx_str8 (b off n c k : Nat) (hk : k < n) (V : World) (ρ : Operand → Value) (o : Oper) {x y : Operand} (ho : o.op = .indexAddr 39 x y) (hx : ρ x = .slice (some ⟨b, off, none⟩) n c) (hy : ρ y = .int .u8 k) : (execOp ρ o).run Tryd.prog V = .ok (.value (.pointer (some ⟨b, off + k, none⟩))) V := by
 have hs : (sizeOf (Tryd.prog.elem 39)).run Tryd.prog V = .ok 1 V := by kernel_rfl
 have hlm : (k : Int) < (n : Int) := by omega
 unfold execOp
 simp only [ho, hx, hy]
 go_simp
theorem rem_8 {ρ : Operand → Value} {o : Oper} {x y : Operand} (ho : o.op = .binOp .rem 5 x y 5) (a b : Nat) (hb : b ≠ 0) (hx : ρ x = .int .u8 a) (hy : ρ y = .int .u8 b) (w : World) : (execOp ρ o).run Tryd.prog w = .ok (.value (.int .u8 (a % b : Nat))) w := by
 have h0 : ¬ ((b : Int) = 0) := by omega
 have hw : (a : Int).tmod b = ((a % b : Nat) : Int) := by rw [Int.tmod_eq_emod_of_nonneg (by omega)]; exact (Int.natCast_emod a b).symm
 unfold execOp
 simp only [ho, hx, hy]
 go_simp
end Go.Proofs.YtplfineaomneiaaDoor
