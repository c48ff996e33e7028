/-
  The contract of the reference's SameKeys.
-/
import Derived.Test.YtbhnbcpllhefgaaDoorMR6
namespace Go.Proofs.YtbhnbcpllhefgaaDoor
open Go.RowKit

theorem at_key (b off n c : Nat) (i : Nat) (hi : i < n) (w : World) : (Instr.indexAt 35 (.slice (some ⟨b, off, none⟩) n c) (.int .i64 (i : Int))).run Tryd.prog w = .ok (.pointer (some ⟨b, off + i * 32, none⟩)) w := by
  have hs : (sizeOf (Tryd.prog.elem 35)).run Tryd.prog w = .ok 32 w := by kernel_rfl
  rw [run_indexAt_slice w 35 ⟨b, off, none⟩ n c .i64 (i : Int) (by kernel_rfl), if_pos (by omega), hs]
  simp only [Result.andThen, Int.toNat_natCast]
  rw [Addr.add_mid]
/-- An index of a slice yields an address. -/
theorem gq_at {P : Program} {C : World → Prop} {ops : Array Oper} {Q : Act → Prop} {a : Act} {o : Oper} {rest : List Oper} (hw : Region.wanted o (yielded ops a.tmps) = true) (d : Option Tmp) (hd : o.dst = d) (ty : TypeId) (x i : Operand) (ho : o.op = .indexAddr ty x i) (vx vi v : Value)
    (hx : a.eval x = vx) (hi : a.eval i = vi) (hs : ∀ w, C w → (Instr.indexAt ty vx vi).run P w = .ok v w) (h : wpQuiet P ops C Q rest (a.put d v)) : wpQuiet P ops C Q (o :: rest) a := by
  refine gq_val hw d hd v (fun w hC => ?_) h
  unfold execOp
  simp only [ho, hx, hi, Sem.run_bind, hs w hC]
  rfl
theorem load_mid {w : World} {b o : Nat} {K : List Int} (h : w.rangeAt b o (K.map (Value.int .u8))) (hK : K.length = 32) : (Instr.loadAt 24 (.pointer (some ⟨b, o, none⟩))).run Tryd.prog w = .ok (.agg (w8s K)) w :=
  run_loadAt_mid w b o 24 (K.map (Value.int .u8)) (.array 32 5) h (by kernel_rfl) rfl (by rw [List.length_map, hK]; kernel_rfl)
theorem getD_key (p : List (List Int)) (i : Nat) (h : i < p.length) : p.getD i [] = p[i] := by simp [List.getD, List.getElem?_eq_getElem h]
theorem same_at (p q : List (List Int)) (i : Nat) (hl : p.length = q.length) (h : i < p.length) : (p.drop i == q.drop i) = ((p.getD i [] == q.getD i []) && (p.drop (i + 1) == q.drop (i + 1))) := by
  rw [List.drop_eq_getElem_cons h, List.drop_eq_getElem_cons (show i < q.length by omega), getD_key p i h, getD_key q i (by omega)]
  rfl

set_option maxRecDepth 100000 in
set_option maxHeartbeats 4000000 in
theorem refsame_any (al bl : Option Addr) (c d : Nat) (p q : List (List Int)) (w : World) (hp : Rk w al p) (hq : Rk w bl q) (hn : p.length ≤ 1000) :
    Calls Tryd.prog 18 #[.slice al p.length c, .slice bl q.length d] w fun e w' => e = .returned (.bool (p == q)) ∧ ∃ n, w' = w.drewN n := by
  by_cases hl : p.length = q.length
  · have HP := Lib.hid hp
    have HQ := Lib.hid hq
    have hsa := fun i => same_at p q i hl
    rw [← hl]
    obtain ⟨sv, hsv⟩ : ∃ sv, sv = (p == q) := ⟨_, rfl⟩
    rw [← hsv]
    have HL := Lib.hid hl
    generalize hnn : p.length = n at *
    have HN := Lib.hid hnn
    have HSA := Lib.hid hsa
    have hs0 : sv = (p.drop 0 == q.drop 0) := by rw [hsv]; rfl
    have HS0 := Lib.hid hs0
    clear hp hq hl hnn hsa hsv hs0
    go_enter Tryd.func18, Tryd.ntmps18
    go_wp2_with fail
    go_loopg [13] n (fun g s13 wx => ∃ i : Nat, i ≤ n ∧ s13 = .int .i64 i ∧ Hid (sv = (p.drop i == q.drop i)) ∧ (∃ k, wx = w.drewN k) ∧ n - i = g)
    case atStart => exact ⟨0, by omega, by go_num, HS0, ⟨0, rfl⟩, rfl⟩
    case round =>
      obtain ⟨i, hi, rfl, hs, ⟨k, rfl⟩, hgk⟩ := hrel
      by_cases hlt : i < n
      · obtain ⟨b1, o1, rfl, hb1, hr1, hx1⟩ := HP.out i (by rw [HN.out]; exact hlt)
        obtain ⟨b2, o2, rfl, hb2, hr2, hx2⟩ := HQ.out i (by rw [← HL.out]; exact hlt)
        have hss := hs.out.trans (HSA.out i hlt)
        generalize p.getD i [] = x at *
        generalize q.getD i [] = y at *
        have HSS := Lib.hid hss
        clear hss hs
        have hi5 : (i : Int) < (n : Int) := by omega
        go_upto_region 6 with fail
        refine wp_region_class (C := fun w' => ∃ k, w' = w.drewN k) (by kernel_rfl) (by kernel_rfl) ⟨k + 1, rfl⟩ ?_
        refine gq_val (by kernel_rfl) (some 16) rfl (.slice (some ⟨b1, o1, none⟩) n c) (fun w' _ => by kernel_rfl) ?_
        simp only [Act.put, List.setIfInBounds_toArray, List.set_cons_succ, List.set_cons_zero]
        refine gq_val (by kernel_rfl) (some 17) rfl (.int .i64 i) (fun w' _ => by kernel_rfl) ?_
        simp only [Act.put, List.setIfInBounds_toArray, List.set_cons_succ, List.set_cons_zero]
        refine gq_at (by kernel_rfl) (some 18) rfl 35 (.tmp 16) (.tmp 17) rfl (.slice (some ⟨b1, o1, none⟩) n c) (.int .i64 i) (.pointer (some ⟨b1, o1 + i * 32, none⟩)) (by kernel_rfl) (by kernel_rfl) (fun w' _ => at_key b1 o1 n c i hlt w') ?_
        simp only [Act.put, List.setIfInBounds_toArray, List.set_cons_succ, List.set_cons_zero]
        refine gq_load (by kernel_rfl) (some 19) rfl 24 (.tmp 18) rfl ⟨b1, o1 + i * 32, none⟩ (.agg (w8s x)) (by kernel_rfl) (fun w' hC => by obtain ⟨k2, rfl⟩ := hC; exact load_mid hr1 hx1) ?_
        simp only [Act.put, List.setIfInBounds_toArray, List.set_cons_succ, List.set_cons_zero]
        refine gq_val (by kernel_rfl) (some 20) rfl (.slice (some ⟨b2, o2, none⟩) n d) (fun w' _ => by kernel_rfl) ?_
        simp only [Act.put, List.setIfInBounds_toArray, List.set_cons_succ, List.set_cons_zero]
        refine gq_val (by kernel_rfl) (some 21) rfl (.int .i64 i) (fun w' _ => by kernel_rfl) ?_
        simp only [Act.put, List.setIfInBounds_toArray, List.set_cons_succ, List.set_cons_zero]
        refine gq_at (by kernel_rfl) (some 22) rfl 35 (.tmp 20) (.tmp 21) rfl (.slice (some ⟨b2, o2, none⟩) n d) (.int .i64 i) (.pointer (some ⟨b2, o2 + i * 32, none⟩)) (by kernel_rfl) (by kernel_rfl) (fun w' _ => at_key b2 o2 n d i hlt w') ?_
        simp only [Act.put, List.setIfInBounds_toArray, List.set_cons_succ, List.set_cons_zero]
        refine gq_load (by kernel_rfl) (some 23) rfl 24 (.tmp 22) rfl ⟨b2, o2 + i * 32, none⟩ (.agg (w8s y)) (by kernel_rfl) (fun w' hC => by obtain ⟨k2, rfl⟩ := hC; exact load_mid hr2 hx2) ?_
        simp only [Act.put, List.setIfInBounds_toArray, List.set_cons_succ, List.set_cons_zero]
        refine gq_val (by kernel_rfl) (some 24) rfl (.bool (!(x == y))) (fun w' _ => ne_key rfl x y hx1 hx2 (by kernel_rfl) (by kernel_rfl) w') ?_
        simp only [Act.put, List.setIfInBounds_toArray, List.set_cons_succ, List.set_cons_zero]
        refine wpQuiet_nil ?_
        rintro _ ⟨k2, rfl⟩
        cases hxy : (x == y)
        · rw [hxy] at HSS
          have HF : Hid (sv = false) := Lib.hid (HSS.out.trans (Bool.false_and _))
          clear hxy hr1 hr2
          simp only [Bool.not_false]
          go_wp2_with fail
          go_ret
          exact ⟨by rw [HF.out]; rfl, k2, rfl⟩
        · rw [hxy] at HSS
          have HF : Hid (sv = (p.drop (i + 1) == q.drop (i + 1))) := Lib.hid (HSS.out.trans (Bool.true_and _))
          clear hxy hr1 hr2
          simp only [Bool.not_true]
          go_wp2_with fail
          go_roundg (n - (i + 1))
          case measure => omega
          case rel => exact ⟨i + 1, by omega, by go_num, HF, ⟨k2, rfl⟩, rfl⟩
      · have hss := hs.out
        rw [List.drop_eq_nil_of_le (by rw [HN.out]; omega), List.drop_eq_nil_of_le (by rw [← HL.out]; omega)] at hss
        have HF : Hid (sv = true) := Lib.hid hss
        clear hss hs
        go_wp2_with fail
        go_ret
        exact ⟨by rw [HF.out]; rfl, k, rfl⟩
  · have hne : (p == q) = false := by
      rw [beq_eq_false_iff_ne]
      intro h
      exact hl (by rw [h])
    rw [hne]
    have hd : ((p.length : Int) == (q.length : Int)) = false := by
      apply beq_false_of_ne
      omega
    have hd2 : ¬ ((p.length : Int) = (q.length : Int)) := by omega
    clear hp hq hne
    generalize p.length = n at *
    generalize q.length = m at *
    go_enter Tryd.func18, Tryd.ntmps18
    go_wp2_with fail
    go_ret
    exact ⟨rfl, 0, rfl⟩
end Go.Proofs.YtbhnbcpllhefgaaDoor
