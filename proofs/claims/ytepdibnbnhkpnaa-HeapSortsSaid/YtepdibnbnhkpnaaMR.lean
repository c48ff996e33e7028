/-
  Two slices in a row for 'long', two heaps in memory, a row that grows beside the numbers, and the lists behind them.
-/
import Derived.Test.YtepdibnbnhkpnaaMQ
namespace Go.Proofs.Ytepdibnbnhkpnaa
open Go.RowKit
set_option linter.unusedSimpArgs false
set_option linter.unusedVariables false

theorem two_row (a : Option Addr) (n c : Nat) (b : Option Addr) (m d : Nat) (w : World) : (Instr.buildSlice 54 2 #[(0, .slice a n c), (1, .slice b m d)]).run Try.prog w = .ok (.slice (some ⟨w.heap.size, 0, none⟩) 2 2) (w.alloc (.cells #[.slice a n c, .slice b m d] 25)) := by
  obtain ⟨i0, hi, hz0, hz1, hz2⟩ := info_parts infoS
  refine run_buildSlice w 54 25 2 _ #[.slice a n c, .slice b m d] i0 _ Try.underlying54 hi hz0 (by rw [hz1]; omega) (by rw [hz1]; omega) ?_
  rw [hz1]
  kernel_rfl
set_option maxRecDepth 100000 in
set_option maxHeartbeats 2000000 in
theorem long_two (g : Nat) (a : Option Addr) (n c : Nat) (b : Option Addr) (m d : Nat) (w : World) (hX : Bx w g #[.slice a n c, .slice b m d] 25) (hn : n + m ≤ 9223372036854775807) : Calls Try.prog 7 #[.slice (some ⟨g, 0, none⟩) 2 2] w fun e w' => e = .returned (.bool (decide ((160 : Int) < ((n + m : Nat) : Int)))) ∧ w = w' := by
  have hl : (Instr.loadAt 25 (.pointer (some ⟨g, 0, none⟩))).run Try.prog w = .ok (.slice a n c) w := hX.load rfl (by kernel_rfl)
  have hl2 : (Instr.loadAt 25 (.pointer (some ⟨g, 1, none⟩))).run Try.prog w = .ok (.slice b m d) w := hX.load (i := 1) rfl (by kernel_rfl)
  clear hX
  go_enter Try.func7, Try.ntmps7
  go_wp2_with fail
  go_loopg [3, 8] 2 (fun gg s3 s8 wx => ((s3 = .int .i64 (0 : Nat) ∧ s8 = .int .i64 (0 : Nat) ∧ gg = 2) ∨ (s3 = .int .i64 (n : Nat) ∧ s8 = .int .i64 (1 : Nat) ∧ gg = 1) ∨ (s3 = .int .i64 (n + m : Nat) ∧ s8 = .int .i64 (2 : Nat) ∧ gg = 0)) ∧ w = wx)
  case atStart => exact ⟨.inl ⟨rfl, rfl, rfl⟩, rfl⟩
  case round =>
    obtain ⟨⟨rfl, rfl, rfl⟩ | ⟨rfl, rfl, rfl⟩ | ⟨rfl, rfl, rfl⟩, rfl⟩ := hrel
    · go_upto_region 4 with fail
      apply wp_region_lit
      refine gw_val (by kernel_rfl) (some 10) rfl (.pointer (some ⟨g, 0, none⟩)) (idx_row g 0 2 2 0 (by omega) w _ _ rfl (by kernel_rfl) (by kernel_rfl)) ?_
      simp only [Act.put, List.setIfInBounds_toArray, List.set_cons_succ, List.set_cons_zero]
      refine gw_load (by kernel_rfl) (some 11) rfl 25 (.tmp 10) rfl ⟨g, 0, none⟩ (.slice a n c) (by kernel_rfl) (hl) ?_
      simp only [Act.put, List.setIfInBounds_toArray, List.set_cons_succ, List.set_cons_zero]
      refine gw_val (by kernel_rfl) (some 5) rfl (.slice a n c) (by kernel_rfl) ?_
      simp only [Act.put, List.setIfInBounds_toArray, List.set_cons_succ, List.set_cons_zero]
      apply wpList_nil
      go_upto_region 5 with fail
      apply wp_region_lit
      refine gw_val (by kernel_rfl) (some 12) rfl (.int .i64 (0 : Nat)) (by kernel_rfl) ?_
      simp only [Act.put, List.setIfInBounds_toArray, List.set_cons_succ, List.set_cons_zero]
      refine gw_val (by kernel_rfl) (some 13) rfl (.slice a n c) (by kernel_rfl) ?_
      simp only [Act.put, List.setIfInBounds_toArray, List.set_cons_succ, List.set_cons_zero]
      refine gw_val (by kernel_rfl) (some 14) rfl (.int .i64 n) (by kernel_rfl) ?_
      simp only [Act.put, List.setIfInBounds_toArray, List.set_cons_succ, List.set_cons_zero]
      refine gw_val (by kernel_rfl) (some 15) rfl (.int .i64 (0 + n : Nat)) (add_nat rfl (0) n (by omega) (by kernel_rfl) (by kernel_rfl) w) ?_
      rw [Nat.zero_add]
      simp only [Act.put, List.setIfInBounds_toArray, List.set_cons_succ, List.set_cons_zero]
      refine gw_val (by kernel_rfl) (some 3) rfl (.int .i64 (n : Nat)) (by kernel_rfl) ?_
      simp only [Act.put, List.setIfInBounds_toArray, List.set_cons_succ, List.set_cons_zero]
      apply wpList_nil
      clear hl hl2
      go_wp2_with fail
      go_roundg 1
      case measure => omega
      case rel => exact ⟨.inr (.inl ⟨rfl, rfl, rfl⟩), rfl⟩
    · go_upto_region 4 with fail
      apply wp_region_lit
      refine gw_val (by kernel_rfl) (some 10) rfl (.pointer (some ⟨g, 1, none⟩)) (idx_row g 0 2 2 1 (by omega) w _ _ rfl (by kernel_rfl) (by kernel_rfl)) ?_
      simp only [Act.put, List.setIfInBounds_toArray, List.set_cons_succ, List.set_cons_zero]
      refine gw_load (by kernel_rfl) (some 11) rfl 25 (.tmp 10) rfl ⟨g, 1, none⟩ (.slice b m d) (by kernel_rfl) (hl2) ?_
      simp only [Act.put, List.setIfInBounds_toArray, List.set_cons_succ, List.set_cons_zero]
      refine gw_val (by kernel_rfl) (some 5) rfl (.slice b m d) (by kernel_rfl) ?_
      simp only [Act.put, List.setIfInBounds_toArray, List.set_cons_succ, List.set_cons_zero]
      apply wpList_nil
      go_upto_region 5 with fail
      apply wp_region_lit
      refine gw_val (by kernel_rfl) (some 12) rfl (.int .i64 (n : Nat)) (by kernel_rfl) ?_
      simp only [Act.put, List.setIfInBounds_toArray, List.set_cons_succ, List.set_cons_zero]
      refine gw_val (by kernel_rfl) (some 13) rfl (.slice b m d) (by kernel_rfl) ?_
      simp only [Act.put, List.setIfInBounds_toArray, List.set_cons_succ, List.set_cons_zero]
      refine gw_val (by kernel_rfl) (some 14) rfl (.int .i64 m) (by kernel_rfl) ?_
      simp only [Act.put, List.setIfInBounds_toArray, List.set_cons_succ, List.set_cons_zero]
      refine gw_val (by kernel_rfl) (some 15) rfl (.int .i64 (n + m : Nat)) (add_nat rfl (n) m (by omega) (by kernel_rfl) (by kernel_rfl) w) ?_
      simp only [Act.put, List.setIfInBounds_toArray, List.set_cons_succ, List.set_cons_zero]
      refine gw_val (by kernel_rfl) (some 3) rfl (.int .i64 (n + m : Nat)) (by kernel_rfl) ?_
      simp only [Act.put, List.setIfInBounds_toArray, List.set_cons_succ, List.set_cons_zero]
      apply wpList_nil
      clear hl hl2
      go_wp2_with fail
      go_roundg 0
      case measure => omega
      case rel => exact ⟨.inr (.inr ⟨rfl, rfl, rfl⟩), rfl⟩
    · clear hl hl2
      go_wp2_with fail
      go_ret
      exact ⟨rfl, rfl⟩
/-- The numbers, and a row that grows apart from them. -/
structure ML (w : World) (a : Option Addr) (n c gs N : Nat) (v : Value) (M : List It) (V : World) : Prop where
  bel : Below w.heap.size w V
  num : Bx V gs #[.slice a n c, .int .i64 N] 42
  gsw : w.heap.size ≤ gs
  row : V.ownsRow (gs + 1) 24 3 v M.length (itc M)
theorem ML.but {w V V2 : World} {a : Option Addr} {n c gs N N2 : Nat} {v : Value} {M : List It} (h : ML w a n c gs N v M V) (hb : But gs V V2) (hx : Bx V2 gs #[.slice a n c, .int .i64 N2] 42) : ML w a n c gs N2 v M V2 :=
  ⟨h.bel.trans (hb.1.mono h.gsw), hx, h.gsw, own_but h.row hb (Nat.lt_succ_self _)⟩
theorem ML.below {w V V2 : World} {a : Option Addr} {n c gs N : Nat} {v : Value} {M : List It} (h : ML w a n c gs N v M V) (hb : Below V.heap.size V V2) : ML w a n c gs N v M V2 :=
  ⟨h.bel.trans (hb.mono h.bel.size), h.num.below h.num.lt hb, h.gsw, own_below h.row hb⟩
theorem ML.app {w V : World} {a : Option Addr} {n c gs N : Nat} {v : Value} {M : List It} (h : ML w a n c gs N v M V) (x : It) (g : Nat) (hx : Bx V g (itA x) 24) (hl : M.length ≤ 100000) :
    ∃ v2 V2, (Builtin.append_ #[35, 35] 35 #[v, .slice (some ⟨g, 0, none⟩) 1 1]).run Try.prog V = .ok v2 V2 ∧ ML w a n c gs N v2 (M ++ [x]) V2 := by
  have hc : Cs V (some ⟨g, 0, none⟩) (itc [x]) := Cs.block hx
  obtain ⟨v2, V2, hr, hO, hb, hg⟩ := append_it h.row (some ⟨g, 0, none⟩) 1 [x] hc (m := 1) rfl (by have := h.num.lt; omega) hl (by omega)
  refine ⟨v2, V2, hr, h.bel.trans (hb.mono (by have := h.gsw; omega)), h.num.below (Nat.lt_succ_self _) hb, h.gsw, ?_⟩
  rw [List.length_append, itc_app]
  exact hO
/-- Two heaps, each in blocks of its own. -/
structure M2 (R : HRep) (w : World) (ga gb : Nat) (Sa Sb : Nat → Prop) (A B : List It) (V : World) : Prop where
  bel : Below w.heap.size w V
  ra : R V ga Sa A
  rb : R V gb Sb B
  sa : ∀ k, Sa k → w.heap.size ≤ k
  sb : ∀ k, Sb k → w.heap.size ≤ k
  ap : ∀ k, Sa k → ¬ Sb k
structure R2 (V : World) (Sa Sb : Nat → Prop) (a : Option Addr) (L : List It) : Prop where
  cs : Cs V a (itc L)
  ap : ∀ x, a = some x → x.block < V.heap.size ∧ ¬ Sa x.block ∧ ¬ Sb x.block
structure X2 (V : World) (Sa Sb : Nat → Prop) (g : Nat) (x : It) : Prop where
  bx : Bx V g (itA x) 24
  na : ¬ Sa g
  nb : ¬ Sb g
section
variable {R : HRep} {w V V2 : World} {b : Option Addr} {ga gb g : Nat} {Sa Sb : Nat → Prop} {A B L M : List It} {x : It}
theorem R2.below (h : R2 V Sa Sb b L) (hb : Below V.heap.size V V2) : R2 V2 Sa Sb b L := ⟨h.cs.below hb, fun x hx => ⟨Nat.lt_of_lt_of_le (h.ap x hx).1 hb.size, (h.ap x hx).2⟩⟩
theorem X2.below (h : X2 V Sa Sb g x) (hb : Below V.heap.size V V2) : X2 V2 Sa Sb g x := { h with bx := h.bx.below h.bx.lt hb }
theorem M2.below (hC : HeapC R 13 15 17 20 19 23 21 11) (h : M2 R w ga gb Sa Sb A B V) (hb : Below V.heap.size V V2) : M2 R w ga gb Sa Sb A B V2 :=
  { h with bel := h.bel.trans (hb.mono h.bel.size), ra := hC.keep h.ra fun k hk => hb.block k (hC.inn h.ra k hk), rb := hC.keep h.rb fun k hk => hb.block k (hC.inn h.rb k hk) }
theorem M2.pa (hC : HeapC R 13 15 17 20 19 23 21 11) {A2 : List It} (h : M2 R w ga gb Sa Sb A B V) (hu : UpdH R ga w.heap.size Sa A2 V V2) : ∃ S2, M2 R w ga gb S2 Sb A2 B V2 ∧ (∀ b L, R2 V Sa Sb b L → R2 V2 S2 Sb b L) ∧ ∀ g x, X2 V Sa Sb g x → X2 V2 S2 Sb g x := by
  obtain ⟨S2, hr, hs, hb⟩ := hu
  have hbs := h.bel.size
  refine ⟨S2, { bel := h.bel.trans hb.1, ra := hr, rb := hC.keep h.rb fun k hk => hb.2 k (hC.inn h.rb k hk) fun e => h.ap k e hk, sa := fun k hk => ?_, sb := h.sb, ap := fun k hk hk2 => ?_ }, fun b L q => ⟨q.cs.buts hb fun x hx => (q.ap x hx).2.1, fun x hx => ⟨Nat.lt_of_lt_of_le (q.ap x hx).1 hb.1.size, fun h2 => ?_, (q.ap x hx).2.2⟩⟩, fun g K q => { bx := q.bx.buts hb q.na, na := fun h2 => ?_, nb := q.nb }⟩
  · rcases hs k hk with h1 | h1
    · exact h.sa k h1
    · omega
  · rcases hs k hk with h1 | h1
    · exact h.ap k h1 hk2
    · have := hC.inn h.rb k hk2
      omega
  · rcases hs _ h2 with h1 | h1
    · exact (q.ap x hx).2.1 h1
    · have := (q.ap x hx).1
      omega
  · rcases hs _ h2 with h1 | h1
    · exact q.na h1
    · have := q.bx.lt
      omega
theorem M2.pb (hC : HeapC R 13 15 17 20 19 23 21 11) {B2 : List It} (h : M2 R w ga gb Sa Sb A B V) (hu : UpdH R gb w.heap.size Sb B2 V V2) : ∃ S2, M2 R w ga gb Sa S2 A B2 V2 ∧ (∀ b L, R2 V Sa Sb b L → R2 V2 Sa S2 b L) ∧ ∀ g x, X2 V Sa Sb g x → X2 V2 Sa S2 g x := by
  obtain ⟨S2, hr, hs, hb⟩ := hu
  have hbs := h.bel.size
  refine ⟨S2, { bel := h.bel.trans hb.1, rb := hr, ra := hC.keep h.ra fun k hk => hb.2 k (hC.inn h.ra k hk) fun e => h.ap k hk e, sb := fun k hk => ?_, sa := h.sa, ap := fun k hk2 hk => ?_ }, fun b L q => ⟨q.cs.buts hb fun x hx => (q.ap x hx).2.2, fun x hx => ⟨Nat.lt_of_lt_of_le (q.ap x hx).1 hb.1.size, (q.ap x hx).2.1, fun h2 => ?_⟩⟩, fun g K q => { bx := q.bx.buts hb q.nb, nb := fun h2 => ?_, na := q.na }⟩
  · rcases hs k hk with h1 | h1
    · exact h.sb k h1
    · omega
  · rcases hs k hk with h1 | h1
    · exact h.ap k hk2 h1
    · have := hC.inn h.ra k hk2
      omega
  · rcases hs _ h2 with h1 | h1
    · exact (q.ap x hx).2.2 h1
    · have := (q.ap x hx).1
      omega
  · rcases hs _ h2 with h1 | h1
    · exact q.nb h1
    · have := q.bx.lt
      omega
theorem M2.box (hC : HeapC R 13 15 17 20 19 23 21 11) (h : M2 R w ga gb Sa Sb A B V) (hb : Bx V2 V.heap.size (itA x) 24) : X2 V2 Sa Sb V.heap.size x :=
  ⟨hb, fun hs => by have := hC.inn h.ra _ hs; omega, fun hs => by have := hC.inn h.rb _ hs; omega⟩
theorem M2.new (hC : HeapC R 13 15 17 20 19 23 21 11) (h : M2 R w ga gb Sa Sb A B V) (hb : Below V.heap.size V V2) {V0 : World} (h0 : V0.heap.size = V.heap.size) {v : Value} (hr : Row V0 V2 v L) : ∃ a c, v = .slice a L.length c ∧ R2 V2 Sa Sb a L ∧ L.length ≤ c := by
  obtain ⟨a, c, rfl, hc, hl⟩ := own_it hr
  refine ⟨a, c, rfl, ⟨hc, fun x hx => ?_⟩, hl⟩
  subst hx
  have hlt := hr.lt x.block rfl
  exact ⟨hlt.2, fun hs => by have := hC.inn h.ra _ hs; omega, fun hs => by have := hC.inn h.rb _ hs; omega⟩
end
/-- The IDs are the places. -/
def Seq (M : List It) : Prop := ∀ j, j < M.length → (ita M j).1 = (j : Int)
theorem Seq.nil : Seq [] := fun j h => by simp at h
theorem Seq.app {M : List It} {x : It} (h : Seq M) (hx : x.1 = (M.length : Int)) : Seq (M ++ [x]) := fun j hj => by
  rw [List.length_append, List.length_singleton] at hj
  by_cases e : j < M.length
  · rw [ita_app e]; exact h j e
  · obtain rfl : j = M.length := by omega
    rw [ita_last]; exact hx
theorem Seq.ids : ∀ {M : List It}, Seq M → (M.map (·.1)).Nodup := fun {M} h => by
  rw [List.nodup_iff_pairwise_ne, List.pairwise_iff_getElem]
  intro i j hi hj hij e
  rw [List.length_map] at hi hj
  rw [List.getElem_map, List.getElem_map, ← ita_get hi, ← ita_get hj, h i hi, h j hj] at e
  omega
theorem has_no {B M : List It} {x : It} (h : ((B ++ M).map (·.1)).Nodup) (hx : x ∈ M) : hasId x.1 B = false := hasId_no.2 fun y hy e => by
  rw [List.map_append, List.nodup_append] at h
  exact h.2.2 _ (List.mem_map_of_mem hy) _ (List.mem_map_of_mem hx) e
theorem mid_list {M : List It} {i : Nat} (h : i < M.length) : M = M.take i ++ ita M i :: M.drop (i + 1) := by
  rw [ita_get h, List.getElem_cons_drop, List.take_append_drop]
/-- An item goes from the rest into the heap. -/
theorem move_perm {B M M0 : List It} {i : Nat} (hp : (B ++ M).Perm M0) (hn : (M0.map (·.1)).Nodup) (h : i < M.length) : hasId (ita M i).1 B = false ∧ ((insM B (ita M i)).1 ++ (M.take i ++ M.drop (i + 1))).Perm M0 := by
  have hh : hasId (ita M i).1 B = false := has_no ((hp.map (·.1)).nodup_iff.2 hn) (ita_mem h)
  refine ⟨hh, ?_⟩
  refine ((ins_perm hh).append_right _).trans (List.Perm.trans ?_ hp)
  conv => rhs; rw [mid_list h]
  rw [← List.append_assoc B]
  refine List.Perm.trans ?_ List.perm_middle.symm
  rw [List.append_assoc]
  exact List.Perm.refl _
theorem grow_perm {A M : List It} {j : Nat} (hp : A.Perm (M.take j)) (hn : (M.map (·.1)).Nodup) (h : j < M.length) : (insM A (ita M j)).1.Perm (M.take (j + 1)) := by
  have h1 : (M.take j ++ [ita M j]).Perm (M.take (j + 1)) := by rw [take_snoc9 h]
  have hh : hasId (ita M j).1 A = false := by
    have h2 : ((A ++ [ita M j]).map (·.1)).Nodup := (((hp.append_right _).trans h1).map (·.1)).nodup_iff.2 (hn.sublist ((List.take_sublist _ _).map _))
    exact has_no h2 (by simp)
  refine (ins_perm hh).trans (List.Perm.trans ?_ h1)
  exact (List.Perm.cons _ hp).trans (List.perm_append_singleton _ _).symm
theorem drop_tail9 {A : List It} {j : Nat} : (A.drop j).tail = A.drop (j + 1) := by rw [List.tail_drop]
theorem drop_head9 {A : List It} {j : Nat} (h : j < A.length) : ita (A.drop j) 0 = ita A j := by
  have h0 : 0 < (A.drop j).length := by rw [List.length_drop]; omega
  rw [ita_get h0, ita_get h]
  simp
theorem drop_pos9 {A : List It} {j : Nat} (h : j < A.length) : decide (0 < (A.drop j).length) = true := decide_eq_true (by rw [List.length_drop]; omega)
theorem tmod_nat (m o : Nat) : Int.tmod (m : Int) (o : Int) = ((m % o : Nat) : Int) := rfl
theorem gtr_q {ρ : Operand → Value} {o : Oper} {x y : Operand} (ho : o.op = .binOp .gtr 3 x y 3) (a b : Int) {t : Bool} (ht : decide (b < a) = t) (hx : ρ x = .int .i64 a) (hy : ρ y = .int .i64 b) (w : World) : (execOp ρ o).run Try.prog w = .ok (.value (.bool t)) w := by
  rw [← ht]
  exact gtr_i ho a b hx hy w
theorem rem_nat {ρ : Operand → Value} {o : Oper} {x y : Operand} (ho : o.op = .binOp .rem 3 x y 3) (a b : Nat) (hb : 0 < b) (hx : ρ x = .int .i64 a) (hy : ρ y = .int .i64 b) (w : World) : (execOp ρ o).run Try.prog w = .ok (.value (.int .i64 (a % b : Nat))) w :=
  rem_i64 ho a b (by omega) hx hy w
theorem place_nat (y : Int) (n : Nat) (w : World) (hn : 0 < n) (hn2 : n ≤ 1000000) : ∃ i : Nat, i < n ∧ Calls Try.prog 24 #[.int .i64 y, .int .i64 n] w fun e w' => e = .returned (.int .i64 (i : Nat)) ∧ w = w' := by
  have hr := pl_range y n (by omega)
  have hc := mk_place y n w (by omega) (by omega)
  obtain ⟨i, hi⟩ : ∃ i : Nat, pl y n = (i : Int) := ⟨(pl y n).toNat, by omega⟩
  rw [hi] at hr hc
  exact ⟨i, by omega, hc⟩
end Go.Proofs.Ytepdibnbnhkpnaa
