/-
 SameKeys of equal lists: contract.
-/
import Derived.Test.YtgkckblcekbafaaRK
namespace Go.Proofs.Ytgkckblcekbafaa
open Go.RowKit
set_option maxRecDepth 100000
set_option linter.unusedSimpArgs false
set_option linter.unusedVariables false

abbrev zKy : Nat → Int := fun _ => 0
theorem load_kr {w : World} {b o : Nat} {k : Nat → Int} (h : w.rangeAt b o (kcl k)) : (Instr.loadAt 47 (.pointer (some ⟨b, o, none⟩))).run Try.prog w = .ok (.agg (kcA k)) w := run_loadAt_mid w b o 47 (kcl k) _ h Try.underlying47 rfl (by kernel_rfl)
theorem idx_ky (b off n c k : Nat) (hk : k < n) (V : World) (ρ : Operand → Value) (o : Oper) {x y : Operand} (ho : o.op = .indexAddr 39 x y) (hx : ρ x = .slice (some ⟨b, off, none⟩) n c) (hy : ρ y = .int .i64 k) : (execOp ρ o).run Try.prog V = .ok (.value (.pointer (some ⟨b, off + k * 32, none⟩))) V := by
 have hs : (sizeOf (Try.prog.elem 39)).run Try.prog V = .ok 32 V := by kernel_rfl
 have hlm : (k : Int) < (n : Int) := by omega
 unfold execOp
 simp only [ho, hx, hy]
 go_simp
theorem neq_kk {ρ : Operand → Value} {o : Oper} {x y : Operand} (ho : o.op = .binOp .neq 47 x y 47) (k : Nat → Int) (hx : ρ x = .agg (kcA k)) (hy : ρ y = .agg (kcA k)) (w : World) : (execOp ρ o).run Try.prog w = .ok (.value (.bool false)) w := by
 have h1 := key_cmp ((List.range 32).map k) ((List.range 32).map k) (by simp) (by simp) w
 rw [beq_self_eq_true] at h1
 have h2 := key_guard25
 have e : (Op.equalIn 10000 47 (.agg (kcA k)) (.agg (kcA k))).run Try.prog w = .ok true w := h1
 unfold execOp
 simp only [ho, hx, hy]
 go_simp
set_option maxRecDepth 100000 in
set_option maxHeartbeats 8000000 in
theorem same_keys {w : World} {a a2 : Option Addr} {c c2 : Nat} {L : List (Nat → Int)} (h : Cs w a (kys L)) (h2 : Cs w a2 (kys L)) (hl : L.length ≤ 100000) : Calls Try.prog 18 #[.slice a L.length c, .slice a2 L.length c2] w fun e w' => e = .returned (.bool true) ∧ Below w.heap.size w w' := by
 have HRN : Hid (∀ V, Below w.heap.size w V → ∀ i, i < L.length → ∃ b off b2 off2, a = some ⟨b, off, none⟩ ∧ a2 = some ⟨b2, off2, none⟩ ∧ V.rangeAt b (off + i * 32) (kcl (L.getD i zKy)) ∧ V.rangeAt b2 (off2 + i * 32) (kcl (L.getD i zKy))) := Lib.hid fun V hV i hi => by
  obtain ⟨b, off, h1, -, h3⟩ := fl_range kcl kcl_len (by omega) zKy (h.below hV) hi
  obtain ⟨b2, off2, h4, -, h5⟩ := fl_range kcl kcl_len (by omega) zKy (h2.below hV) hi
  exact ⟨b, off, b2, off2, h1, h4, h3, h5⟩
 obtain ⟨n, hn⟩ : ∃ n, L.length = n := ⟨_, rfl⟩
 rw [hn] at HRN hl ⊢
 have HN := Lib.hid hl
 clear h h2 hl hn
 go_enter Try.func18, Try.ntmps18
 go_upto_region 1 with fail
 refine wl <| gz4 (.slice a n c) (.int .i64 n) (.slice a2 n c2) (.int .i64 n) <| gzb (neq_n rfl (n) (n) (decide_eq_false (fun h => h rfl))) <| wn ?_
 simp only [pu]
 go_upto_region 3 with fail
 refine wl <| gz3 (.slice a n c) (.int .i64 n) (.int .i64 0) <| wn ?_
 simp only [pu]
 go_wp2_with fail
 go_loopg [13] n (fun gg s13 wx => ∃ (i : Nat), s13 = .int .i64 i ∧ i ≤ n ∧ gg + i = n ∧ Hid (Below w.heap.size w wx))
 case atStart => exact ⟨0, rfl, by omega, by omega, Lib.hid (Below.refl _ _)⟩
 case round =>
  obtain ⟨i, rfl, hin, hg, HR⟩ := hrel
  have HGK : Hid (gk + i = n) := Lib.hid hg
  clear hg
  by_cases hlt : i < n
  ·skip
   obtain ⟨b, off, b2, off2, hq1, hq2, hr1, hr2⟩ := HRN.out wr HR.out i hlt
   obtain rfl := hq1
   obtain rfl := hq2
   generalize L.getD i zKy = k at *
   go_upto_region 4 with fail
   refine wl <| gzb (lss_n rfl (i) (n) dT) <| wn ?_
   simp only [pu]
   go_upto_region 5 with fail
   refine wl <| gz2 (.int .i64 i) (.int .i64 i) <| wn ?_
   simp only [pu]
   go_upto_region 6 with fail
   refine wp_region_class (C := fun U => Below wr.heap.size wr U) (by kernel_rfl) (by kernel_rfl) ((Below.refl _ wr).drew) ?_
   refine gy (.slice (some ⟨b, off, none⟩) n c) <| gy (.int .i64 i) <| gyv (.pointer (some ⟨b, off + i * 32, none⟩)) (fun U hU => idx_ky b off n c i hlt U _ _ rfl (by kernel_rfl) (by kernel_rfl)) <| gyl rfl ⟨b, off + i * 32, none⟩ (.agg (kcA k)) (fun U hU => load_kr (rg_below hr1 hU)) <|
     gy (.slice (some ⟨b2, off2, none⟩) n c2) <| gy (.int .i64 i) <| gyv (.pointer (some ⟨b2, off2 + i * 32, none⟩)) (fun U hU => idx_ky b2 off2 n c2 i hlt U _ _ rfl (by kernel_rfl) (by kernel_rfl)) <| gyl rfl ⟨b2, off2 + i * 32, none⟩ (.agg (kcA k)) (fun U hU => load_kr (rg_below hr2 hU)) <|
     gyv (.bool false) (fun U hU => neq_kk rfl k (by kernel_rfl) (by kernel_rfl) U) ?_
   simp only [pu]
   apply wpQuiet_nil
   intro V3 hV3
   have HR2 := Lib.hid (HR.out.trans (hV3.mono HR.out.size))
   clear hV3 HR hr1 hr2
   go_upto_region 8 with fail
   refine wl <| gzv (.int .i64 (i + 1 : Nat)) (add_one rfl i (by have := HN.out; omega) (by kernel_rfl) _) <| gz1 (.int .i64 (i + 1 : Nat)) <| wn ?_
   simp only [pu]
   go_wp2_with fail
   go_roundg (n - (i + 1))
   case measure => have := HGK.out; omega
   case rel => exact ⟨i + 1, rfl, by omega, by omega, HR2⟩
  ·skip
   obtain rfl : i = n := by omega
   go_upto_region 4 with fail
   refine wl <| gzb (lss_n rfl (i) (i) dF) <| wn ?_
   simp only [pu]
   go_upto_region 9 with fail
   refine wl <| gz1 (.bool true) <| wn ?_
   simp only [pu]
   go_wp2_with fail
   go_ret
   exact ⟨rfl, HR.out⟩
end Go.Proofs.Ytgkckblcekbafaa
