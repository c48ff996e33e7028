/-
  The contracts of slices.Grow at nil, of slices.Concat, and of wire.Append.
  Conditions: as typed.
-/
import Derived.Test.YtaaeepanelmgnaaWG2
namespace Go.Proofs.Ytaaeepanelmgnaa
set_option maxRecDepth 100000
open Go.RowKit

set_option maxHeartbeats 1000000 in
theorem grow_nil (n : Nat) (w : World) (h0 : 0 < n) (h1 : n ≤ 100000000) :
    Calls Try.prog 72 #[.slice none 0 0, .int .i64 (n : Int)] w fun e w' => ∃ v, e = .returned v ∧ Own w' w.heap.size v [] ∧ Below w.heap.size w w' := by
  obtain ⟨i0, hi, hz0, hz1, hz2⟩ := info_parts info5
  have hrun := Lib.run_append_nil_zeros (P := Try.prog) w 39 3 39 5 i0 (.int .u8 0) .i64 .i64 Try.underlying39 Try.underlying3 hi hz0 n h0 (by rw [hz1]; omega) (by omega) (by rw [hz2]; omega)
  have hcap := grownCap_ge w n 0 5
  have hmax := grownCap_le_maxLen w n 0 5 (by unfold maxLen; omega)
  have hown : Own (w.drew.alloc (.cells (Builtin.zeroCells (Value.int .u8 0).cells n ++ Builtin.zeroCells (Value.int .u8 0).cells (grownCap w n 0 5 - n)) 5)) w.heap.size (.slice (some ⟨w.heap.size, 0, none⟩) 0 (grownCap w n 0 5)) [] :=
    ⟨rfl, .inr ⟨w.heap.size, _, _, rfl, Nat.le_refl _, heap_alloc_new w.drew _, Nat.zero_le _, hmax, by simp [size_zeroCells, Value.cells]; omega, by simp⟩⟩
  have hbel : Below w.heap.size w (w.drew.alloc (.cells (Builtin.zeroCells (Value.int .u8 0).cells n ++ Builtin.zeroCells (Value.int .u8 0).cells (grownCap w n 0 5 - n)) 5)) := (Below.refl _ w).drew.alloc (Nat.le_refl _) _
  clear hi hz0 hz1 hz2
  have HR := Lib.hid hrun
  clear hrun
  generalize (w.drew.alloc (.cells (Builtin.zeroCells (Value.int .u8 0).cells n ++ Builtin.zeroCells (Value.int .u8 0).cells (grownCap w n 0 5 - n)) 5)) = w1 at *
  generalize grownCap w n 0 5 = cp at *
  go_enter Try.func72, Try.ntmps72
  go_wp2_with (at_builtin; refine Lib.wpList_append_run _ rfl _ _ _ _ rfl _ _ rfl rfl _ _ HR.out ?_)
  go_wp2
  go_ret
  exact ⟨_, rfl, hown, hbel⟩

/-- A row of slices of bytes at block g. -/
def Sls (w : World) (g : Nat) (Ss : List (Option Addr × Nat × List Int)) : Prop :=
  ∀ k, k < Ss.length → w.cell? ⟨g, k, none⟩ = some (.slice (Ss.getD k (none, 0, [])).1 (Ss.getD k (none, 0, [])).2.2.length (Ss.getD k (none, 0, [])).2.1) ∧ Sl w (Ss.getD k (none, 0, [])).1 (Ss.getD k (none, 0, [])).2.1 (Ss.getD k (none, 0, [])).2.2
/-- All their bytes, one behind the other. -/
def flat (Ss : List (Option Addr × Nat × List Int)) : List Int := Ss.flatMap (·.2.2)
theorem flat_take (Ss : List (Option Addr × Nat × List Int)) (k : Nat) (h : k < Ss.length) : flat (Ss.take (k + 1)) = flat (Ss.take k) ++ (Ss.getD k (none, 0, [])).2.2 := by
  rw [getD_lt _ _ _ h, List.take_succ_eq_append_getElem h]
  simp only [flat, List.flatMap_append, List.flatMap_cons, List.flatMap_nil, List.append_nil]
theorem flat_le (Ss : List (Option Addr × Nat × List Int)) (k : Nat) : (flat (Ss.take k)).length ≤ (flat Ss).length := by
  have : flat Ss = flat (Ss.take k) ++ flat (Ss.drop k) := by
    unfold flat
    rw [← List.flatMap_append, List.take_append_drop]
  rw [this, List.length_append]
  omega

set_option maxHeartbeats 2000000 in
theorem concat_any (g : Nat) (Ss : List (Option Addr × Nat × List Int)) (w : World) (hg : g < w.heap.size) (hS : Sls w g Ss) (h0 : 0 < (flat Ss).length) (h1 : (flat Ss).length ≤ 100000000) (h2 : Ss.length ≤ 1000) :
    Calls Try.prog 67 #[.slice (some ⟨g, 0, none⟩) Ss.length Ss.length] w fun e w' => ∃ v, e = .returned v ∧ Own w' w.heap.size v (flat Ss) ∧ Below w.heap.size w w' := by
  obtain ⟨i0, hi, hz0, hz1, hz2⟩ := info_parts info5
  have HI := Lib.hid hi
  have HZ0 := Lib.hid hz0
  have HZ1 := Lib.hid hz1
  have HZ2 := Lib.hid hz2
  have HS := Lib.hid hS
  have HF := Lib.hid (fun k hk => flat_take Ss k hk)
  have HL := Lib.hid (fun k => flat_le Ss k)
  have HE : Hid (flat (Ss.take Ss.length) = flat Ss) := Lib.hid (by rw [List.take_length])
  clear hi hz0 hz1 hz2 hS
  go_enter Try.func67, Try.ntmps67
  go_wp2_with fail
  go_loop [3, 11] (fun s i => ∃ k : Nat, k ≤ Ss.length ∧ i = .int .i64 k ∧ s = .int .i64 ((flat (Ss.take k)).length : Nat)) (fun _ i => Ss.length - (intOf i).toNat)
  case atStart => exact ⟨0, by omega, rfl, rfl⟩
  case round =>
    obtain ⟨k, hk, rfl, rfl⟩ := hrel
    have hle := HL.out k
    by_cases hlt : k < Ss.length
    · obtain ⟨hc, -⟩ := HS.out k hlt
      have hle2 := HL.out (k + 1)
      have HF2 : Hid ((flat (Ss.take (k + 1))).length = (flat (Ss.take k)).length + (Ss.getD k (none, 0, [])).2.2.length) := Lib.hid (by rw [HF.out k hlt, List.length_append])
      have hx : (flat (Ss.take k)).length + (Ss.getD k (none, 0, [])).2.2.length ≤ (flat Ss).length := by have := HF2.out; omega
      clear hle2
      generalize Ss.getD k (none, 0, []) = S at *
      obtain ⟨sa, sc, SL⟩ := S
      simp only at *
      generalize (flat (Ss.take k)).length = x at *
      go_wp2
      go_round
      case rel => exact ⟨k + 1, by omega, by go_num, by rw [HF2.out]; go_num⟩
      case measure => simp [intOf]; omega
    · obtain rfl : k = Ss.length := by omega
      rw [HE.out]
      generalize hM : (flat Ss).length = M at *
      have HM := Lib.hid hM
      clear hM
      go_wp2_with fail
      refine (grow_nil M w h0 h1).mono ?_
      rintro e w1 ⟨v, rfl, hown, hb⟩
      have hz := hb.size
      go_wp2_with fail
      go_loopw [6, 27] (fun s i wx => ∃ k : Nat, k ≤ Ss.length ∧ i = .int .i64 k ∧ Own wx w.heap.size s (flat (Ss.take k)) ∧ Below w.heap.size w wx) (fun _ i _ => Ss.length - (intOf i).toNat)
      case atStart => exact ⟨0, by omega, rfl, hown, hb⟩
      case round =>
        obtain ⟨k, hk, rfl, ho, hb1⟩ := hrel
        have hle := HL.out k
        by_cases hlt : k < Ss.length
        · obtain ⟨hc, hs⟩ := HS.out k hlt
          have hc1 := (hb1.cell (p := ⟨g, k, none⟩) hg).trans hc
          have HSL := Lib.hid (sl_below hs hb1)
          have hle2 := HL.out (k + 1)
          have HF2 := Lib.hid (HF.out k hlt)
          have hx : (flat (Ss.take k)).length + (Ss.getD k (none, 0, [])).2.2.length ≤ M := by have := congrArg List.length HF2.out; rw [List.length_append] at this; omega
          clear hle2 hs hc
          generalize Ss.getD k (none, 0, []) = S at *
          obtain ⟨sa, sc, SL⟩ := S
          simp only at *
          generalize flat (Ss.take k) = x at *
          have hz1 := hb1.size
          go_wp2_with (at_builtin; refine append_src rfl _ _ 39 rfl w.heap.size i0 Try.underlying39 HI.out HZ0.out HZ1.out HZ2.out _ x.length _ rfl ho sa SL.length sc SL rfl rfl HSL.out ?d1 ?d2 ?_)
          case d1 => omega
          case d2 => exact hz1
          intro v2 w2 ho2 hgrow
          have hb2 := after_append (Nat.le_refl _) hz1 ho hb1 hgrow
          have HO : Hid (Own w2 w.heap.size v2 (flat (Ss.take (k + 1)))) := by
            rw [HF2.out]
            show w2.ownsRow _ _ _ _ _ _
            rw [List.length_append, List.map_append]
            exact ho2
          clear hgrow ho hb1 ho2
          go_wp2
          go_roundw
          case rel => exact ⟨k + 1, by omega, by go_num, HO.out, hb2⟩
          case measure => simp [intOf]; omega
        · obtain rfl : k = Ss.length := by omega
          have HO : Hid (Own wr w.heap.size _ (flat Ss)) := Lib.hid (HE.out ▸ ho)
          clear ho
          go_wp2
          go_ret
          exact ⟨_, rfl, HO.out, hb1⟩
end Go.Proofs.Ytaaeepanelmgnaa
