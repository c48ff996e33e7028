/-
 The library's SliceStable at entries: contract.
-/
import Derived.Test.YtgkckblcekbafaaVT
namespace Go.Proofs.Ytgkckblcekbafaa
attribute [local irreducible] wpList wpQuiet
open Go.RowKit
set_option maxRecDepth 100000
set_option linter.unusedSimpArgs false
set_option linter.unusedVariables false

noncomputable def tiS : TypeInfo := (Try.prog.info? 22).get (by kernel_rfl)
noncomputable def tiE : TypeInfo := (Try.prog.info? 50).get (by kernel_rfl)
theorem siK (n : Nat) (h : 2 ≤ n) : Lib.swapperK n tiE 25 = 9 := by
 have a : tiE.hasPointers = true := by kernel_rfl
 have b : (tiE.bytes == 8) = false := by kernel_rfl
 have c : (n == 0) = false := by simp; omega
 have d : (n == 1) = false := by simp; omega
 simp [Lib.swapperK, a, b, c, d]
theorem vo_op {ρ : Operand → Value} {o : Oper} {x : Operand} {p : Option Addr} {n c : Nat} (ho : o.op = .call { callee := .value (.func 35), args := #[x], argTypes := #[20] }) (hf : ρ (.func 35) = .func (.func 35) #[] #[]) (hx : ρ x = .iface 22 (.slice p n c)) (W : World) :
  (execOp ρ o).run Try.prog W = .ok (.value (.agg #[typeHandle Try.prog 22, .pointer (some ⟨W.heap.size, 0, none⟩), .int .u64 151])) (W.alloc (.cells #[.slice p n c] 22)) := by
 have hv : Sem.run Try.prog ((fun args : Array Value => Extern.ReflectliteValue.unpack (args.getD 0 (.tuple #[]))) #[.iface 22 (.slice p n c)]) W = _ := Lib.run_valueOf_slice (P := Try.prog) 22 50 tiS (by kernel_rfl) (by kernel_rfl) p n c W
 have hr : (callFunc 35 #[.iface 22 (.slice p n c)]).run Try.prog W = .ok (.value (.agg #[typeHandle Try.prog 22, .pointer (some ⟨W.heap.size, 0, none⟩), .int .u64 151])) (W.alloc (.cells #[.slice p n c] 22)) := by
  rw [run_callFunc_extern Try.func35 (by kernel_rfl) (by kernel_rfl) (by kernel_rfl) (e := fun args => Extern.ReflectliteValue.unpack (args.getD 0 (.tuple #[]))) (by kernel_rfl), hv]
  rfl
 clear hv
 unfold execOp
 simp only [ho, hx, hf]
 go_simp
theorem sp_run (p : Option Addr) (n c q : Nat) (hq : Try.prog.funcs.findIdx? (·.name == "internal/reflectlite" ++ ".Swapper$" ++ toString (Lib.swapperK n tiE 25)) = some q) (W : World) : (callFunc 36 #[.iface 22 (.slice p n c)]).run Try.prog W = .ok (.value (.func (.func q) #[] (if Lib.swapperK n tiE 25 ≤ 2 then #[] else #[.slice p n c, typeHandle Try.prog 50]))) W := by
 have hs := Lib.run_swapper_slice (P := Try.prog) 22 50 tiS tiE (by kernel_rfl) (by kernel_rfl) (by kernel_rfl) 25 (fun w => by kernel_rfl) p n c q hq W
 rw [run_callFunc_extern Try.func36 (by kernel_rfl) (by kernel_rfl) (by kernel_rfl) (e := Extern.ReflectliteSwapper.swapper "internal/reflectlite" (Extern.ReflectliteValue.valueError "Swapper")) (by kernel_rfl), hs]
 rfl
theorem sp_op {ρ : Operand → Value} {o : Oper} {x : Operand} {p : Option Addr} {n c : Nat} {v : Value} (ho : o.op = .call { callee := .value (.func 36), args := #[x], argTypes := #[20] }) (hf : ρ (.func 36) = .func (.func 36) #[] #[]) (hx : ρ x = .iface 22 (.slice p n c)) (W : World)
  (hr : (callFunc 36 #[.iface 22 (.slice p n c)]).run Try.prog W = .ok (.value v) W) : (execOp ρ o).run Try.prog W = .ok (.value v) W := by
 unfold execOp
 simp only [ho, hx, hf]
 go_simp
theorem ln_op {ρ : Operand → Value} {o : Oper} {x : Operand} {p : Option Addr} {n c : Nat} {a : Addr} (ho : o.op = .call { callee := .value (.func 38), args := #[x], argTypes := #[72] }) (hf : ρ (.func 38) = .func (.func 38) #[] #[]) (hx : ρ x = .agg #[typeHandle Try.prog 22, .pointer (some a), .int .u64 151]) (W : World)
  (ha : W.cell? a = some (.slice p n c)) : (execOp ρ o).run Try.prog W = .ok (.value (.int .i64 n)) W := by
 have hl := Lib.run_valueLen_slice (P := Try.prog) 22 50 tiS (by kernel_rfl) (by kernel_rfl) (by kernel_rfl) a p n c W ha
 have hr : (callFunc 38 #[.agg #[typeHandle Try.prog 22, .pointer (some a), .int .u64 151]]).run Try.prog W = .ok (.value (.int .i64 n)) W := by
  rw [run_callFunc_extern Try.func38 (by kernel_rfl) (by kernel_rfl) (by kernel_rfl) (e := Extern.ReflectliteValue.method (Extern.ReflectliteValue.valueError "reflectlite.Value.Len" 0) Extern.ReflectliteValue.len) (by kernel_rfl), hl]
  rfl
 clear hl
 unfold execOp
 simp only [ho, hx, hf]
 go_simp
set_option maxRecDepth 100000 in
set_option maxHeartbeats 8000000 in
theorem q_ins0 (w : World) (x y : Value) (hx : x.oneCell' = true) (hy : y.oneCell' = true) (a b : Nat) (hab : b ≤ a + 1) (ha : a < 1000000000000000) : Calls Try.prog 50 #[.agg #[x, y], .int .i64 a, .int .i64 b] w fun e w' => e = .returned (.tuple #[]) ∧ Below w.heap.size w w' := by
 have HN : Hid (b ≤ a + 1 ∧ a < 1000000000000000) := Lib.hid ⟨hab, ha⟩
 clear hab ha
 go_enter Try.func50, Try.ntmps50
 go_upto_region 1 with fail
 change Code.wp _ _ _ _ (w.alloc (.cells #[x, y] 78))
 have hX4 : Bx (w.alloc (.cells #[x, y] 78)) w.heap.size #[x, y] 78 := heap_alloc_last w _
 have hA : Below w.heap.size w (w.alloc (.cells #[x, y] 78)) := (Below.refl _ w).alloc (Nat.le_refl _) _
 generalize w.alloc (.cells #[x, y] 78) = W1 at *
 obtain ⟨g4, hg4⟩ : ∃ q, w.heap.size = q := ⟨_, rfl⟩
 rw [hg4] at hX4
 simp only [hg4]
 have HB : Hid (w.heap.size = g4 ∧ Below w.heap.size w W1) := Lib.hid ⟨hg4, hA⟩
 have HLS : Hid (∀ U, Below W1.heap.size W1 U → Bx U g4 #[x, y] 78) := Lib.hid fun U hU => hX4.below hX4.lt hU
 clear hX4 hA hg4
 refine wl <| gz1 (.int .i64 a) <| gzw (.int .i64 ((a + 1 : Nat) : Int)) (add_nn rfl a 1 (by have := HN.out; omega)) <| gz1 (.int .i64 ((a + 1 : Nat) : Int)) <| wn ?_
 simp only [pu]
 go_wp2_with fail
 go_loopg [6] 0 (fun gg s6 wx => s6 = .int .i64 (a + 1 : Nat) ∧ gg = 0 ∧ Hid (Below w.heap.size w wx))
 case atStart => exact ⟨rfl, rfl, Lib.hid HB.out.2⟩
 case round =>
  obtain ⟨rfl, hg, HR⟩ := hrel
  go_upto_region 2 with fail
  refine wl <| gz2 (.int .i64 ((a + 1 : Nat) : Int)) (.int .i64 b) <| gzb (lss_n rfl (((a + 1 : Nat) : Int)) (b) (decide_eq_false (by have := HN.out; omega))) <| wn ?_
  simp only [pu]
  go_wp2_with fail
  go_end0
  exact ⟨rfl, HR.out⟩
set_option maxRecDepth 100000 in
set_option maxHeartbeats 8000000 in
theorem q_stab0 (w : World) (x y : Value) (hx : x.oneCell' = true) (hy : y.oneCell' = true) (n : Nat) (hn : n ≤ 1) : Calls Try.prog 37 #[.agg #[x, y], .int .i64 n] w fun e w' => e = .returned (.tuple #[]) ∧ Below w.heap.size w w' := by
 have HN : Hid (n ≤ 1 ∧ x.oneCell' = true ∧ y.oneCell' = true) := Lib.hid ⟨hn, hx, hy⟩
 clear hn hx hy
 go_enter Try.func37, Try.ntmps37
 go_upto_region 1 with fail
 change Code.wp _ _ _ _ (w.alloc (.cells #[x, y] 78))
 have hX4 : Bx (w.alloc (.cells #[x, y] 78)) w.heap.size #[x, y] 78 := heap_alloc_last w _
 have hA : Below w.heap.size w (w.alloc (.cells #[x, y] 78)) := (Below.refl _ w).alloc (Nat.le_refl _) _
 generalize w.alloc (.cells #[x, y] 78) = W1 at *
 obtain ⟨g4, hg4⟩ : ∃ q, w.heap.size = q := ⟨_, rfl⟩
 rw [hg4] at hX4
 simp only [hg4]
 have HB : Hid (w.heap.size = g4 ∧ Below w.heap.size w W1) := Lib.hid ⟨hg4, hA⟩
 have HLS : Hid (∀ U, Below W1.heap.size W1 U → Bx U g4 #[x, y] 78) := Lib.hid fun U hU => hX4.below hX4.lt hU
 clear hX4 hA hg4
 refine wl <| gz1 (.int .i64 20) <| wn ?_
 simp only [pu]
 go_upto_region 2 with fail
 refine wl <| gz3 (.int .i64 20) (.int .i64 0) (.int .i64 20) <| wn ?_
 simp only [pu]
 go_wp2_with fail
 go_loopg [5, 6] 0 (fun gg s5 s6 wx => s5 = .int .i64 (0 : Nat) ∧ s6 = .int .i64 20 ∧ gg = 0 ∧ Hid (Below W1.heap.size W1 wx))
 case atStart => exact ⟨rfl, rfl, rfl, Lib.hid (Below.refl _ _)⟩
 case round =>
  obtain ⟨rfl, rfl, hg, HR⟩ := hrel
  go_upto_region 3 with fail
  refine wl <| gz2 (.int .i64 20) (.int .i64 n) <| gzb (leq_n rfl (20) (n) (decide_eq_false (by have := HN.out; omega))) <| wn ?_
  simp only [pu]
  go_upto_region 7 with fail
  refine wl <| gzl rfl ⟨g4, 0, none⟩ (.agg #[x, y]) (run_loadAt_mid wr g4 0 78 [x, y] _ (bx_range (cs := [x, y]) (HLS.out wr HR.out)) Try.underlying78 rfl (by kernel_rfl)) <| gz2 (.int .i64 ((0 : Nat) : Int)) (.int .i64 n) <|
   gzc (.tuple #[]) (fun w' => Below wr.heap.size wr w') (q_ins0 wr x y HN.out.2.1 HN.out.2.2 0 n (by have := HN.out; omega) (by omega)) (fun V2 hV2 => ?_)
  simp only [pu]
  apply wpList_nil
  have HR2 : Hid (Below w.heap.size w V2) := Lib.hid (HB.out.2.trans (((HR.out.trans (hV2.mono HR.out.size))).mono HB.out.2.size))
  clear hV2 HR
  go_wp2_with fail
  go_loopg [4] 0 (fun gg s4 wx => s4 = .int .i64 20 ∧ gg = 0 ∧ Hid (Below w.heap.size w wx))
  case atStart => exact ⟨rfl, rfl, HR2⟩
  case round =>
   obtain ⟨rfl, hg, HR⟩ := hrel
   go_upto_region 8 with fail
   refine wl <| gz2 (.int .i64 20) (.int .i64 n) <| gzb (lss_n rfl (20) (n) (decide_eq_false (by have := HN.out; omega))) <| wn ?_
   simp only [pu]
   go_wp2_with fail
   go_end0
   exact ⟨rfl, HR.out⟩
set_option maxRecDepth 100000 in
set_option maxHeartbeats 8000000 in
theorem q_ssB {w0 w : World} {B g n c bs : Nat} {L : List Tg} (h : SW w0 B g n c bs L w) (h2 : 2 ≤ n) (hn : n < 1000000000000000) (ht : L.Pairwise fun a b => a.2 < b.2) : Calls Try.prog 32 #[.iface 22 (.slice (some ⟨g, 0, none⟩) n c), lsV bs] w fun e w' => e = .returned (.tuple #[]) ∧ ∃ C, Srt L C ∧ SW w0 B g n c bs C w' := by
 have HN := Lib.hid hn
 have HT := Lib.hid ht
 have HSP : Hid (∀ W, (callFunc 36 #[.iface 22 (.slice (some ⟨g, 0, none⟩) n c)]).run Try.prog W = .ok (.value (swV g n c)) W) := Lib.hid fun W => by
  have := sp_run (some ⟨g, 0, none⟩) n c 49 (by rw [siK n h2]; kernel_rfl) W
  rw [siK n h2] at this
  exact this
 clear hn ht h2
 go_enter Try.func32, Try.ntmps32
 have hb0 : Below w.heap.size w (w.alloc (.cells #[.slice (some ⟨g, 0, none⟩) n c] 22)) := (Below.refl _ w).alloc (Nat.le_refl _) _
 have hX0 : Bx (w.alloc (.cells #[.slice (some ⟨g, 0, none⟩) n c] 22)) w.heap.size #[.slice (some ⟨g, 0, none⟩) n c] 22 := heap_alloc_last w _
 obtain ⟨W0, hW0⟩ : ∃ W0, w.alloc (.cells #[.slice (some ⟨g, 0, none⟩) n c] 22) = W0 := ⟨_, rfl⟩
 obtain ⟨g6, hg6⟩ : ∃ q, w.heap.size = q := ⟨_, rfl⟩
 obtain ⟨V2, hst2, hb2, hX4⟩ := new_bx (c := #[.pointer none, .pointer none, .int .u64 0]) (c' := #[typeHandle Try.prog 22, .pointer (some ⟨g6, 0, none⟩), .int .u64 151]) (ty := 72) W0 rfl (by kernel_rfl) (by kernel_rfl)
 obtain ⟨g4, hg4⟩ : ∃ q, W0.heap.size = q := ⟨_, rfl⟩
 rw [hW0] at hb0 hX0
 rw [hg6] at hX0
 rw [hg4] at hX4
 have hX6 := hX0.below hX0.lt hb2
 have HB2 : Hid (Below w.heap.size w V2) := Lib.hid (hb0.trans (hb2.mono hb0.size))
 clear hb0 hX0 hb2
 go_upto_region 0 with fail
 refine wl <| gz1 (.iface 22 (.slice (some ⟨g, 0, none⟩) n c)) ?_
 simp only [pu]
 refine run_to rfl (some 7) rfl (.agg #[typeHandle Try.prog 22, .pointer (some ⟨g6, 0, none⟩), .int .u64 151]) W0 (by rw [← hW0, ← hg6]; exact vo_op rfl (by kernel_rfl) (by kernel_rfl) w) ?_
 simp only [pu]
 refine run_to rfl (some 4) rfl (.pointer (some ⟨W0.heap.size, 0, none⟩)) (W0.alloc (.cells #[.pointer none, .pointer none, .int .u64 0] 72)) (by kernel_rfl) ?_
 simp only [pu]
 refine gzs rfl (hst2) <| wn ?_
 rw [hg4]
 clear hst2 hW0 hg6 hg4
 go_upto_region 1 with fail
 refine wl <| gz1 (.iface 22 (.slice (some ⟨g, 0, none⟩) n c)) ?_
 simp only [pu]
 refine run_to rfl (some 9) rfl (swV g n c) V2 (sp_op rfl (by kernel_rfl) (by kernel_rfl) V2 (HSP.out V2)) ?_
 simp only [pu]
 refine gz1 (swV g n c) <| wn ?_
 simp only [pu]
 have HS2 := Lib.hid (h.below HB2.out)
 clear h
 go_upto_region 2 with fail
 refine wl <| gz3 (lsV bs) (swV g n c) (.agg (lsA bs g n c)) <|
  gzl rfl ⟨g4, 0, none⟩ (.agg #[typeHandle Try.prog 22, .pointer (some ⟨g6, 0, none⟩), .int .u64 151]) (run_loadAt_mid V2 g4 0 72 [typeHandle Try.prog 22, .pointer (some ⟨g6, 0, none⟩), .int .u64 151] _ (bx_range (cs := [typeHandle Try.prog 22, .pointer (some ⟨g6, 0, none⟩), .int .u64 151]) hX4) Try.underlying72 rfl (by kernel_rfl)) ?_
 simp only [pu]
 refine run_to rfl (some 14) rfl (.int .i64 n) V2 (ln_op rfl (by kernel_rfl) (by kernel_rfl) V2 (bx_range (cs := [.slice (some ⟨g, 0, none⟩) n c]) hX6 0 _ rfl)) ?_
 simp only [pu]
 refine gzc (.tuple #[]) (fun w' => ∃ C, Srt L C ∧ SW w0 B g n c bs C w') (q_stab HS2.out HN.out HT.out) (fun V3 hV3 => ?_)
 simp only [pu]
 apply wpList_nil
 go_wp2_with fail
 go_end0
 exact ⟨rfl, hV3⟩
set_option maxRecDepth 100000 in
set_option maxHeartbeats 8000000 in
theorem q_ss0 (w : World) (p : Option Addr) (n c bs : Nat) (hn : n ≤ 1) : Calls Try.prog 32 #[.iface 22 (.slice p n c), lsV bs] w fun e w' => e = .returned (.tuple #[]) ∧ Below w.heap.size w w' := by
 obtain ⟨q, hs2⟩ : ∃ q : Nat, ∀ W, (callFunc 36 #[.iface 22 (.slice p n c)]).run Try.prog W = .ok (.value (.func (.func q) #[] #[])) W := by
  rcases (by omega : n = 0 ∨ n = 1) with rfl | rfl
  ·exact ⟨_, fun W => sp_run p 0 c 41 (by kernel_rfl) W⟩
  ·exact ⟨_, fun W => sp_run p 1 c 42 (by kernel_rfl) W⟩
 have HN := Lib.hid hn
 have HSP := Lib.hid hs2
 clear hn hs2
 go_enter Try.func32, Try.ntmps32
 have hb0 : Below w.heap.size w (w.alloc (.cells #[.slice p n c] 22)) := (Below.refl _ w).alloc (Nat.le_refl _) _
 have hX0 : Bx (w.alloc (.cells #[.slice p n c] 22)) w.heap.size #[.slice p n c] 22 := heap_alloc_last w _
 obtain ⟨W0, hW0⟩ : ∃ W0, w.alloc (.cells #[.slice p n c] 22) = W0 := ⟨_, rfl⟩
 obtain ⟨g6, hg6⟩ : ∃ q, w.heap.size = q := ⟨_, rfl⟩
 obtain ⟨V2, hst2, hb2, hX4⟩ := new_bx (c := #[.pointer none, .pointer none, .int .u64 0]) (c' := #[typeHandle Try.prog 22, .pointer (some ⟨g6, 0, none⟩), .int .u64 151]) (ty := 72) W0 rfl (by kernel_rfl) (by kernel_rfl)
 obtain ⟨g4, hg4⟩ : ∃ q, W0.heap.size = q := ⟨_, rfl⟩
 rw [hW0] at hb0 hX0
 rw [hg6] at hX0
 rw [hg4] at hX4
 have hX6 := hX0.below hX0.lt hb2
 have HB2 : Hid (Below w.heap.size w V2) := Lib.hid (hb0.trans (hb2.mono hb0.size))
 clear hb0 hX0 hb2
 go_upto_region 0 with fail
 refine wl <| gz1 (.iface 22 (.slice p n c)) ?_
 simp only [pu]
 refine run_to rfl (some 7) rfl (.agg #[typeHandle Try.prog 22, .pointer (some ⟨g6, 0, none⟩), .int .u64 151]) W0 (by rw [← hW0, ← hg6]; exact vo_op rfl (by kernel_rfl) (by kernel_rfl) w) ?_
 simp only [pu]
 refine run_to rfl (some 4) rfl (.pointer (some ⟨W0.heap.size, 0, none⟩)) (W0.alloc (.cells #[.pointer none, .pointer none, .int .u64 0] 72)) (by kernel_rfl) ?_
 simp only [pu]
 refine gzs rfl (hst2) <| wn ?_
 rw [hg4]
 clear hst2 hW0 hg6 hg4
 go_upto_region 1 with fail
 refine wl <| gz1 (.iface 22 (.slice p n c)) ?_
 simp only [pu]
 refine run_to rfl (some 9) rfl (.func (.func q) #[] #[]) V2 (sp_op rfl (by kernel_rfl) (by kernel_rfl) V2 (HSP.out V2)) ?_
 simp only [pu]
 refine gz1 (.func (.func q) #[] #[]) <| wn ?_
 simp only [pu]
 go_upto_region 2 with fail
 refine wl <| gz3 (lsV bs) (.func (.func q) #[] #[]) (.agg #[lsV bs, .func (.func q) #[] #[]]) <|
  gzl rfl ⟨g4, 0, none⟩ (.agg #[typeHandle Try.prog 22, .pointer (some ⟨g6, 0, none⟩), .int .u64 151]) (run_loadAt_mid V2 g4 0 72 [typeHandle Try.prog 22, .pointer (some ⟨g6, 0, none⟩), .int .u64 151] _ (bx_range (cs := [typeHandle Try.prog 22, .pointer (some ⟨g6, 0, none⟩), .int .u64 151]) hX4) Try.underlying72 rfl (by kernel_rfl)) ?_
 simp only [pu]
 refine run_to rfl (some 14) rfl (.int .i64 n) V2 (ln_op rfl (by kernel_rfl) (by kernel_rfl) V2 (bx_range (cs := [.slice p n c]) hX6 0 _ rfl)) ?_
 simp only [pu]
 refine gzc (.tuple #[]) (fun w' => Below V2.heap.size V2 w') (q_stab0 V2 (lsV bs) (.func (.func q) #[] #[]) rfl rfl n HN.out) (fun V3 hV3 => ?_)
 simp only [pu]
 apply wpList_nil
 go_wp2_with fail
 go_end0
 exact ⟨rfl, HB2.out.trans (hV3.mono HB2.out.size)⟩
/-- The library's stable sort of entries: what the row holds is sorted, ties by number. -/
theorem q_ss {w0 w : World} {B g n c bs : Nat} {L : List Tg} (h : SW w0 B g n c bs L w) (hn : n < 1000000000000000) (ht : L.Pairwise fun a b => a.2 < b.2) : Calls Try.prog 32 #[.iface 22 (.slice (some ⟨g, 0, none⟩) n c), lsV bs] w fun e w' => e = .returned (.tuple #[]) ∧ ∃ C, Srt L C ∧ SW w0 B g n c bs C w' := by
 rcases Nat.lt_or_ge n 2 with h2 | h2
 ·refine (q_ss0 w (some ⟨g, 0, none⟩) n c bs (by omega)).mono ?_
  rintro e w' ⟨rfl, hb⟩
  refine ⟨rfl, L, ⟨.refl _, ?_⟩, h.below hb⟩
  match L, h.len with
  | [], _ => exact .nil
  | [x], _ => exact List.pairwise_singleton _ _
  | x :: y :: r, hl => rw [List.length_cons, List.length_cons] at hl; omega
 ·exact q_ssB h h2 hn ht
end Go.Proofs.Ytgkckblcekbafaa
