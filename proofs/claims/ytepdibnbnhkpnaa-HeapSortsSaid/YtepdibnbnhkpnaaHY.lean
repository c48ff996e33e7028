/-
  The program's heap: an item is moved up.
-/
import Derived.Test.YtepdibnbnhkpnaaHX
namespace Go.Proofs.Ytepdibnbnhkpnaa
open Go.RowKit
set_option linter.unusedSimpArgs false
set_option linter.unusedVariables false

section
variable {ρ : Operand → Value} {o : Oper} {x y : Operand}
theorem gtr_i (ho : o.op = .binOp .gtr 3 x y 3) (a b : Int) (hx : ρ x = .int .i64 a) (hy : ρ y = .int .i64 b) (w : World) : (execOp ρ o).run Try.prog w = .ok (.value (.bool (decide (b < a)))) w := by
  unfold execOp
  simp only [ho, hx, hy]
  go_simp
theorem leq_i (ho : o.op = .binOp .leq 3 x y 3) (a b : Int) (hx : ρ x = .int .i64 a) (hy : ρ y = .int .i64 b) (w : World) : (execOp ρ o).run Try.prog w = .ok (.value (.bool (decide (a ≤ b)))) w := by
  unfold execOp
  simp only [ho, hx, hy]
  go_simp
theorem add_k (ho : o.op = .binOp .add 3 x y 3) (a b : Nat) (ha : a ≤ 1000000) (hb : b ≤ 1000000) (hx : ρ x = .int .i64 a) (hy : ρ y = .int .i64 b) (w : World) : (execOp ρ o).run Try.prog w = .ok (.value (.int .i64 (a + b : Nat))) w := by
  unfold execOp
  simp only [ho, hx, hy]
  simp [go_sem]
  rw [IntKind.wrap_i64]
  omega
theorem sub_k (ho : o.op = .binOp .sub 3 x y 3) (a b : Nat) (ha : a ≤ 1000000) (hb : b ≤ a) (hx : ρ x = .int .i64 a) (hy : ρ y = .int .i64 b) (w : World) : (execOp ρ o).run Try.prog w = .ok (.value (.int .i64 (a - b : Nat))) w := by
  unfold execOp
  simp only [ho, hx, hy]
  simp [go_sem]
  rw [IntKind.wrap_i64]
  omega
theorem mul_2 (ho : o.op = .binOp .mul 3 x y 3) (a : Nat) (ha : a ≤ 1000000) (hx : ρ x = .int .i64 2) (hy : ρ y = .int .i64 a) (w : World) : (execOp ρ o).run Try.prog w = .ok (.value (.int .i64 (2 * a : Nat))) w := by
  unfold execOp
  simp only [ho, hx, hy]
  simp [go_sem]
  rw [IntKind.wrap_i64]
  omega
theorem quo_2 (ho : o.op = .binOp .quo 3 x y 3) (a : Nat) (ha : a ≤ 1000000) (hx : ρ x = .int .i64 a) (hy : ρ y = .int .i64 2) (w : World) : (execOp ρ o).run Try.prog w = .ok (.value (.int .i64 (a / 2 : Nat))) w := by
  unfold execOp
  simp only [ho, hx, hy]
  simp [go_sem]
  rw [IntKind.wrap_i64]
  omega
theorem not_b (ho : o.op = .unOp .not 4 x) (b : Bool) (hx : ρ x = .bool b) (w : World) : (execOp ρ o).run Try.prog w = .ok (.value (.bool (!b))) w := by
  unfold execOp
  simp only [ho, hx]
  go_simp
end
/-- A heap in memory whose items are T, in whatever order. -/
structure Hm (Bd g : Nat) (d : Hd) (w : World) (T : List It) (V : World) : Prop where
  pm : T.Perm d.A
  ex : ∃ f, Gh Bd g d w { d with A := T } f V ∧ Px T f
section
variable {Bd g : Nat} {d : Hd} {w V V2 : World} {T : List It}
theorem Hm.len (h : Hm Bd g d w T V) : T.length = d.A.length := h.pm.length_eq
theorem Hm.inj (h : Hm Bd g d w T V) (hn : (d.A.map (·.1)).Nodup) : Inj T := inj_of ((h.pm.map (·.1)).nodup_iff.2 hn)
theorem Hm.gd (h : Hm Bd g d w T V) (hw : Bd ≤ w.heap.size) (hg : Gd V V2) : Hm Bd g d w T V2 := by
  obtain ⟨pm, f, hG, hp⟩ := h
  exact ⟨pm, f, hG.trans (Gh.below hG.mem hg.1 (hG.size hw)), hp⟩
theorem Hm.drew (h : Hm Bd g d w T V) : Hm Bd g d w T { V with drawn := V.drawn + 1 } := by
  obtain ⟨pm, f, hG, hp⟩ := h
  exact ⟨pm, f, hG.drew, hp⟩
theorem Hm.ldb (h : Hm Bd g d w T V) {b : Nat} (hb : d.ka = some ⟨b, 0, none⟩) : (Instr.loadAt 35 (.pointer (some ⟨g, 0, none⟩))).run Try.prog V = .ok (.slice (some ⟨b, 0, none⟩) T.length d.kc) V := by
  obtain ⟨pm, f, hG, hp⟩ := h
  exact hG.mem.ldb hb
theorem Hm.item (h : Hm Bd g d w T V) {b : Nat} (hb : d.ka = some ⟨b, 0, none⟩) {i : Nat} (hi : i < T.length) : (Instr.loadAt 24 (.pointer (some ⟨b, i * 3, none⟩))).run Try.prog V = .ok (.agg (itA (ita T i))) V := by
  obtain ⟨pm, f, hG, hp⟩ := h
  exact hG.mem.item hb hi
theorem Hm.exch (h : Hm Bd g d w T V) (hB : ∀ k, Sh g d k → Bd ≤ k) (hw : Bd ≤ w.heap.size) (hn : (d.A.map (·.1)).Nodup) {i j : Nat} (hi : i < T.length) (hj : j < T.length) :
    Calls Try.prog 27 #[.pointer (some ⟨g, 0, none⟩), .int .i64 i, .int .i64 j] V fun e w' => e = .returned (.tuple #[]) ∧ Hm Bd g d w (swL T i j) w' := by
  have hI := h.inj hn
  obtain ⟨pm, f, hG, hp⟩ := h
  exact (q_ex (Bd := Bd) hG.mem (hG.base hB hw) (hG.size hw) hi hj).mono fun e w' q => ⟨q.1, (sw_perm T i j hi hj).trans pm, _, hG.trans q.2, hp.sw hI hi hj⟩
theorem Hm.start {f : Int → Option Int} (h : Mh w g d f) (hp : Px d.A f) : Hm Bd g d w d.A w := ⟨List.Perm.refl _, f, Gh.refl h, hp⟩
end
theorem up_out {A : List It} {i i0 : Nat} (h : Gen A i) (h2 : i = i0 ∨ ∀ c, 0 < c → c < A.length → (c - 1) / 2 = i → okA A c) (h3 : 0 < i → okA A i) (h4 : i0 < A.length) : DnI A i0 := by
  rcases h2 with rfl | h2
  · exact ⟨h, h3⟩
  · exact (up_end ⟨h, h2⟩ h3).dn i0 h4
def UpR (Bd g : Nat) (d : Hd) (w : World) (i0 : Nat) (gg : Nat) (s1 : Value) (V : World) : Prop :=
  ∃ (i : Nat) (T : List It), s1 = .int .i64 i ∧ i = gg ∧ Hm Bd g d w T V ∧ i < T.length ∧ Gen T i ∧ (i = i0 ∨ ∀ c, 0 < c → c < T.length → (c - 1) / 2 = i → okA T c)
def UpO (Bd g : Nat) (d : Hd) (w : World) (i0 : Nat) (e : Ending) (V : World) : Prop := e = .returned (.tuple #[]) ∧ ∃ T, Hm Bd g d w T V ∧ DnI T i0
set_option maxRecDepth 100000 in
set_option maxHeartbeats 4000000 in
theorem q_up {Bd g : Nat} {d : Hd} {f : Int → Option Int} {w : World} (h : Mh w g d f) (hp : Px d.A f) (hB : ∀ k, Sh g d k → Bd ≤ k) (hw : Bd ≤ w.heap.size) (hn : (d.A.map (·.1)).Nodup) (hl : d.A.length ≤ 100000) {i0 : Nat} (hi : i0 < d.A.length) (hG : Gen d.A i0) :
    Calls Try.prog 26 #[.pointer (some ⟨g, 0, none⟩), .int .i64 i0] w (UpO Bd g d w i0) := by
  obtain ⟨b, hb⟩ := h.addr (by omega)
  have HS : Hid (UpR Bd g d w i0 i0 (.int .i64 i0) w) := Lib.hid ⟨i0, d.A, rfl, rfl, Hm.start h hp, hi, hG, .inl rfl⟩
  have HB := Lib.hid (fun (T : List It) (V : World) (h : Hm Bd g d w T V) (i j : Nat) (hi : i < T.length) (hj : j < T.length) => h.exch hB hw hn hi hj)
  have HLB := Lib.hid (fun (T : List It) (V : World) (h : Hm Bd g d w T V) => h.ldb hb)
  have HIT := Lib.hid (fun (T : List It) (V : World) (h : Hm Bd g d w T V) (i : Nat) (hi : i < T.length) => h.item hb hi)
  have HGD := Lib.hid (fun (T : List It) (V V2 : World) (h : Hm Bd g d w T V) (hg : Gd V V2) => h.gd hw hg)
  have HIL : Hid (i0 < d.A.length ∧ d.A.length ≤ 100000) := Lib.hid ⟨hi, hl⟩
  clear h hp hB hw hn hl hi hG hb
  go_enter Try.func26, Try.ntmps26
  go_wp2_with fail
  go_loopg [1] i0 (fun gg s1 wx => UpR Bd g d w i0 gg s1 wx)
  case atStart => exact HS.out
  case round =>
    obtain ⟨i, T, rfl, hgi, hm, hiT, hG, hE⟩ := hrel
    obtain ⟨n, hn⟩ : ∃ n, T.length = n := ⟨_, rfl⟩
    have hn1 : n = d.A.length := by rw [← hn]; exact hm.len
    have hil : i ≤ 100000 := by have := HIL.out.2; omega
    by_cases h0 : 0 < i
    · have HD : Hid (decide ((0 : Int) < (i : Int)) = true) := Lib.hid (decide_eq_true (by omega))
      obtain ⟨p, hpp⟩ : ∃ p, p = (i - 1) / 2 := ⟨_, rfl⟩
      have hpn : p < n := by omega
      have hin : i < n := by omega
      have HPP := Lib.hid hpp
      have HN := Lib.hid hn
      have HN1 := Lib.hid hn1
      have HGE := Lib.hid hG
      have HE := Lib.hid hE
      have HGI := Lib.hid hgi
      have HL1 := Lib.hid (fun V h => by have := HLB.out T V h; rw [HN.out] at this; exact this)
      clear hpp hn hn1 hG hE hgi hiT
      go_upto_region 0 with fail
      apply wp_region_lit
      refine gw_val (by kernel_rfl) (some 5) rfl (.int .i64 i) (by kernel_rfl) ?_
      simp only [Act.put, List.setIfInBounds_toArray, List.set_cons_succ, List.set_cons_zero]
      refine gw_val (by kernel_rfl) (some 6) rfl (.bool true) (by rw [← HD.out]; exact gtr_i rfl i 0 (by kernel_rfl) (by kernel_rfl) _) ?_
      simp only [Act.put, List.setIfInBounds_toArray, List.set_cons_succ, List.set_cons_zero]
      apply wpList_nil
      go_upto_region 1 with fail
      apply wp_region_lit
      refine gw_val (by kernel_rfl) (some 7) rfl (.int .i64 i) (by kernel_rfl) ?_
      simp only [Act.put, List.setIfInBounds_toArray, List.set_cons_succ, List.set_cons_zero]
      refine gw_val (by kernel_rfl) (some 8) rfl (.int .i64 (i - 1 : Nat)) (sub_k rfl i 1 (by omega) (by omega) (by kernel_rfl) (by kernel_rfl) _) ?_
      simp only [Act.put, List.setIfInBounds_toArray, List.set_cons_succ, List.set_cons_zero]
      refine gw_val (by kernel_rfl) (some 9) rfl (.int .i64 p) (by rw [HPP.out]; exact quo_2 rfl (i - 1) (by omega) (by kernel_rfl) (by kernel_rfl) _) ?_
      simp only [Act.put, List.setIfInBounds_toArray, List.set_cons_succ, List.set_cons_zero]
      refine gw_val (by kernel_rfl) (some 4) rfl (.int .i64 p) (by kernel_rfl) ?_
      simp only [Act.put, List.setIfInBounds_toArray, List.set_cons_succ, List.set_cons_zero]
      apply wpList_nil
      go_upto_region 2 with fail
      have HI1 := Lib.hid (fun V h => HIT.out T V h i (by rw [HN.out]; exact hin))
      have HI2 := Lib.hid (fun V h => HIT.out T V h p (by rw [HN.out]; exact hpn))
      have HBF : Hid (bf (ita T i) (ita T p) = bf (ita T i) (ita T p)) := Lib.hid rfl
      obtain ⟨x, hx⟩ : ∃ x, ita T i = x := ⟨_, rfl⟩
      obtain ⟨y, hy⟩ : ∃ y, ita T p = y := ⟨_, rfl⟩
      rw [hx] at HI1
      rw [hy] at HI2
      have HX := Lib.hid hx
      have HY := Lib.hid hy
      clear hx hy HBF
      obtain ⟨r, hr⟩ : ∃ r, bf x y = r := ⟨_, rfl⟩
      have HR := Lib.hid hr
      clear hr
      refine wp_region_class (C := fun U => Hm Bd g d w T U) (by kernel_rfl) (by kernel_rfl) (hm.drew) ?_
      refine gq_val (by kernel_rfl) (some 10) rfl (.pointer (some ⟨g, 0, none⟩)) (fun U hU => by kernel_rfl) ?_
      simp only [Act.put, List.setIfInBounds_toArray, List.set_cons_succ, List.set_cons_zero]
      refine gq_val (by kernel_rfl) (some 11) rfl (.pointer (some ⟨g, 0, none⟩)) (fun U hU => by kernel_rfl) ?_
      simp only [Act.put, List.setIfInBounds_toArray, List.set_cons_succ, List.set_cons_zero]
      refine gq_val (by kernel_rfl) (some 12) rfl (.pointer (some ⟨g, 0, none⟩)) (fun U hU => by kernel_rfl) ?_
      simp only [Act.put, List.setIfInBounds_toArray, List.set_cons_succ, List.set_cons_zero]
      refine gq_load (by kernel_rfl) (some 13) rfl 35 (.tmp 12) rfl ⟨g, 0, none⟩ (.slice (some ⟨b, 0, none⟩) n d.kc) (by kernel_rfl) (fun U hU => HL1.out U hU) ?_
      simp only [Act.put, List.setIfInBounds_toArray, List.set_cons_succ, List.set_cons_zero]
      refine gq_val (by kernel_rfl) (some 14) rfl (.int .i64 i) (fun U hU => by kernel_rfl) ?_
      simp only [Act.put, List.setIfInBounds_toArray, List.set_cons_succ, List.set_cons_zero]
      refine gq_val (by kernel_rfl) (some 15) rfl (.pointer (some ⟨b, i * 3, none⟩)) (fun U hU => idx_it0 b n d.kc i hin _ _ _ rfl (by kernel_rfl) (by kernel_rfl)) ?_
      simp only [Act.put, List.setIfInBounds_toArray, List.set_cons_succ, List.set_cons_zero]
      refine gq_load (by kernel_rfl) (some 16) rfl 24 (.tmp 15) rfl ⟨b, i * 3, none⟩ (.agg (itA x)) (by kernel_rfl) (fun U hU => HI1.out U hU) ?_
      simp only [Act.put, List.setIfInBounds_toArray, List.set_cons_succ, List.set_cons_zero]
      refine gq_val (by kernel_rfl) (some 17) rfl (.pointer (some ⟨g, 0, none⟩)) (fun U hU => by kernel_rfl) ?_
      simp only [Act.put, List.setIfInBounds_toArray, List.set_cons_succ, List.set_cons_zero]
      refine gq_val (by kernel_rfl) (some 18) rfl (.pointer (some ⟨g, 0, none⟩)) (fun U hU => by kernel_rfl) ?_
      simp only [Act.put, List.setIfInBounds_toArray, List.set_cons_succ, List.set_cons_zero]
      refine gq_val (by kernel_rfl) (some 19) rfl (.pointer (some ⟨g, 0, none⟩)) (fun U hU => by kernel_rfl) ?_
      simp only [Act.put, List.setIfInBounds_toArray, List.set_cons_succ, List.set_cons_zero]
      refine gq_load (by kernel_rfl) (some 20) rfl 35 (.tmp 19) rfl ⟨g, 0, none⟩ (.slice (some ⟨b, 0, none⟩) n d.kc) (by kernel_rfl) (fun U hU => HL1.out U hU) ?_
      simp only [Act.put, List.setIfInBounds_toArray, List.set_cons_succ, List.set_cons_zero]
      refine gq_val (by kernel_rfl) (some 21) rfl (.int .i64 p) (fun U hU => by kernel_rfl) ?_
      simp only [Act.put, List.setIfInBounds_toArray, List.set_cons_succ, List.set_cons_zero]
      refine gq_val (by kernel_rfl) (some 22) rfl (.pointer (some ⟨b, p * 3, none⟩)) (fun U hU => idx_it0 b n d.kc p hpn _ _ _ rfl (by kernel_rfl) (by kernel_rfl)) ?_
      simp only [Act.put, List.setIfInBounds_toArray, List.set_cons_succ, List.set_cons_zero]
      refine gq_load (by kernel_rfl) (some 23) rfl 24 (.tmp 22) rfl ⟨b, p * 3, none⟩ (.agg (itA y)) (by kernel_rfl) (fun U hU => HI2.out U hU) ?_
      simp only [Act.put, List.setIfInBounds_toArray, List.set_cons_succ, List.set_cons_zero]
      refine gq_call (by kernel_rfl) (some 24) rfl 11 #[.agg (itA x), .agg (itA y)] (.bool r) (fun U hU => by kernel_rfl) (fun U hU => (before_it x y U).mono fun e w2 q => ⟨by rw [q.1, HR.out], HGD.out T U w2 hU q.2⟩) ?_
      simp only [Act.put, List.setIfInBounds_toArray, List.set_cons_succ, List.set_cons_zero]
      refine gq_val (by kernel_rfl) (some 25) rfl (.bool (!r)) (fun U hU => not_b rfl r (by kernel_rfl) _) ?_
      simp only [Act.put, List.setIfInBounds_toArray, List.set_cons_succ, List.set_cons_zero]
      apply wpQuiet_nil
      intro V hV
      clear hm HI1 HI2 HL1
      cases r with
      | true =>
        have HH := Lib.hid (up_step HGE.out h0 (by rw [HN.out]; exact hin) (by rw [HX.out, ← HPP.out, HY.out]; exact HR.out))
        have HBX := Lib.hid (HB.out T V hV i p (by rw [HN.out]; exact hin) (by rw [HN.out]; exact hpn))
        clear hV HR HX HY HGE HE HLB HIT
        go_upto_region 3 with fail
        apply wp_region_lit
        refine gw_val (by kernel_rfl) (some 26) rfl (.pointer (some ⟨g, 0, none⟩)) (by kernel_rfl) ?_
        simp only [Act.put, List.setIfInBounds_toArray, List.set_cons_succ, List.set_cons_zero]
        refine gw_val (by kernel_rfl) (some 27) rfl (.int .i64 i) (by kernel_rfl) ?_
        simp only [Act.put, List.setIfInBounds_toArray, List.set_cons_succ, List.set_cons_zero]
        refine gw_val (by kernel_rfl) (some 28) rfl (.int .i64 p) (by kernel_rfl) ?_
        simp only [Act.put, List.setIfInBounds_toArray, List.set_cons_succ, List.set_cons_zero]
        refine gw_call (by kernel_rfl) (some 29) rfl 27 #[.pointer (some ⟨g, 0, none⟩), .int .i64 i, .int .i64 p] (.tuple #[]) (fun w9 => Hm Bd g d w (swL T i p) w9) (by kernel_rfl) HBX.out (fun V2 hV2 => ?_)
        simp only [Act.put, List.setIfInBounds_toArray, List.set_cons_succ, List.set_cons_zero]
        apply wpList_nil
        go_upto_region 4 with fail
        apply wp_region_lit
        refine gw_val (by kernel_rfl) (some 30) rfl (.int .i64 p) (by kernel_rfl) ?_
        simp only [Act.put, List.setIfInBounds_toArray, List.set_cons_succ, List.set_cons_zero]
        refine gw_val (by kernel_rfl) (some 1) rfl (.int .i64 p) (by kernel_rfl) ?_
        simp only [Act.put, List.setIfInBounds_toArray, List.set_cons_succ, List.set_cons_zero]
        apply wpList_nil
        go_wp2_with fail
        go_roundg p
        case measure => have := HPP.out; have := HGI.out; omega
        case rel => exact ⟨p, swL T i p, rfl, rfl, hV2, by rw [swL_len, HN.out]; exact hpn, by rw [HPP.out]; exact HH.out.1, .inr (by rw [HPP.out]; exact HH.out.2)⟩
      | false =>
        have HO : Hid (UpO Bd g d w i0 (.returned (.tuple #[])) V) := Lib.hid ⟨rfl, T, hV, up_out HGE.out HE.out (fun _ => by unfold okA; rw [← HPP.out, HX.out, HY.out]; exact HR.out) (by rw [HN.out, HN1.out]; exact HIL.out.1)⟩
        clear hV HR HX HY HGE HE HLB HIT HB
        go_wp2_with fail
        exact end_none rfl rfl HO.out
    · have HD : Hid (decide ((0 : Int) < (i : Int)) = false) := Lib.hid (decide_eq_false (by omega))
      have HO : Hid (UpO Bd g d w i0 (.returned (.tuple #[])) wr) := Lib.hid ⟨rfl, T, hm, up_out hG hE (fun h => absurd h h0) (by have := HIL.out.1; omega)⟩
      clear hm hG hE hgi hn hn1 hiT
      go_upto_region 0 with fail
      apply wp_region_lit
      refine gw_val (by kernel_rfl) (some 5) rfl (.int .i64 i) (by kernel_rfl) ?_
      simp only [Act.put, List.setIfInBounds_toArray, List.set_cons_succ, List.set_cons_zero]
      refine gw_val (by kernel_rfl) (some 6) rfl (.bool false) (by rw [← HD.out]; exact gtr_i rfl i 0 (by kernel_rfl) (by kernel_rfl) _) ?_
      simp only [Act.put, List.setIfInBounds_toArray, List.set_cons_succ, List.set_cons_zero]
      apply wpList_nil
      go_wp2_with fail
      exact end_none rfl rfl HO.out
end Go.Proofs.Ytepdibnbnhkpnaa
