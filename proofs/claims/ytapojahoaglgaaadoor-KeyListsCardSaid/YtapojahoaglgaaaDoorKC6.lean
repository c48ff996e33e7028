/-
  The contracts of the reference's Format and Unhex.
-/
import Derived.Test.YtapojahoaglgaaaDoorKC5
namespace Go.Proofs.YtapojahoaglgaaaDoor
open Go.RowKit

set_option maxRecDepth 100000 in
set_option maxHeartbeats 4000000 in
theorem reffmt_any (K : List Int) (w : World) (hK : K.length = 32) (h8 : ∀ x, x ∈ K → W8 x) :
    Calls Tryd.prog 13 #[.agg (w8s K)] w fun e w' => e = .returned (.string (strOfNums (hexL K))) ∧ Below w.heap.size w w' := by
  have h1 : Ab (w.alloc (.cells (w8s K) 25)) w.heap.size 25 K := heap_alloc_last w _
  have h3 : Below w.heap.size w (w.alloc (.cells (w8s K) 25)) := (Below.refl _ w).alloc (by simp) _
  have CH := refhex_any (some ⟨w.heap.size, 0, none⟩) 32 K (w.alloc (.cells (w8s K) 25)) h1.sl h8 (by omega)
  rw [hK] at CH
  obtain ⟨S, hS⟩ : ∃ S, S = strOfNums (hexL K) := ⟨_, rfl⟩
  rw [← hS] at CH ⊢
  clear hS
  go_enter Tryd.func13, Tryd.ntmps13
  go_upto_region 1 with fail
  change Code.wp _ _ _ _ (w.alloc (.cells (w8s K) 25))
  generalize w.alloc (.cells (w8s K) 25) = W at *
  have hsl := slice_key w.heap.size W
  go_wp2_with (go_at_call 24; refine CH.mono ?_; rintro e w1 ⟨rfl, n, rfl⟩)
  go_ret
  exact ⟨rfl, Below.drewN' h3 n⟩

/-- What Unhex returns. -/
def UnB (s : ByteArray) (w : World) (e : Ending) (w' : World) : Prop :=
  ∃ v ok, e = .returned (.tuple #[v, .bool ok]) ∧ Below w.heap.size w w' ∧ (∀ B, unhexL (nums s) = some B → ok = true ∧ Own w' w.heap.size v B) ∧ (unhexL (nums s) = none → ok = false)

set_option maxRecDepth 100000 in
set_option maxHeartbeats 4000000 in
theorem unhex_any (s : ByteArray) (w : World) (hs : s.size ≤ 1000) : Calls Tryd.prog 26 #[.string s] w (UnB s w) := by
  obtain ⟨i0, hi, hz0, hz1, hz2⟩ := info_parts info5
  have HI := Lib.hid hi
  have HZ0 := Lib.hid hz0
  have HZ1 := Lib.hid hz1
  have HZ2 := Lib.hid hz2
  clear hi hz0 hz1 hz2
  have HL : Hid ((nums s).length = s.size) := Lib.hid (nums_len s)
  generalize hn : s.size = n at *
  have HN := Lib.hid hn
  clear hn
  go_enter Tryd.func26, Tryd.ntmps26
  go_wp2_with fail
  go_loopg [4, 5] n (fun g s4 s5 wx => ∃ (i : Nat) (B : List Int), 2 * i ≤ n ∧ s5 = .int .i64 ((2 * i : Nat) : Int) ∧ B.length = i ∧ Own wx w.heap.size s4 B ∧ Below w.heap.size w wx ∧ Hid (unhexL (nums s) = (unhexL ((nums s).drop (2 * i))).map (B ++ ·)) ∧ n - 2 * i = g)
  case atStart => exact ⟨0, [], by omega, by go_num, rfl, Own.nil _ _, Below.refl _ _, Lib.hid (by simp), rfl⟩
  case round =>
    obtain ⟨i, B, hi, rfl, hBl, hO, hW, hU, hgk⟩ := hrel
    obtain ⟨a4, c4, rfl, -, -⟩ := hO.sl
    by_cases hlt : 2 * i + 1 < n
    · have h1 : 2 * i < s.size := by rw [HN.out]; omega
      have h2 : 2 * i + 1 < s.size := by rw [HN.out]; omega
      have e1 := fun w => str_index s (2 * i) h1 w
      have e2 := fun w => str_index s (2 * i + 1) h2 w
      have x8 := W8.getD (nums_byte s) (2 * i) (by rw [HL.out]; omega)
      have y8 := W8.getD (nums_byte s) (2 * i + 1) (by rw [HL.out]; omega)
      have hn : 2 * i + 1 < (nums s).length := by rw [HL.out]; omega
      have HNX := Lib.hid (unhexL_next (nums s) B i hn hU.out)
      have HBD := Lib.hid (unhexL_bad (nums s) B i hn hU.out)
      have hO' : wr.ownsRow w.heap.size 5 1 (.slice a4 i c4) i (B.map (Value.int .u8)) := by
        unfold Own at hO
        rwa [hBl] at hO
      rw [hBl]
      have HO := Lib.hid hO'
      have HBL := Lib.hid hBl
      have HW := Lib.hid hW
      have cx := fun w => refdigit_any ((nums s).getD (2 * i) 0) w x8
      have cy := fun w => refdigit_any ((nums s).getD (2 * i + 1) 0) w y8
      have hp := digL_range ((nums s).getD (2 * i) 0)
      have hq := digL_range ((nums s).getD (2 * i + 1) 0)
      clear h1 h2 hn hBl hO hO' hW hU x8 y8
      generalize (nums s).getD (2 * i) 0 = x at *
      generalize (nums s).getD (2 * i + 1) 0 = y at *
      generalize digL x = p at *
      generalize digL y = q at *
      obtain ⟨hp1, hp2⟩ := hp
      obtain ⟨hq1, hq2⟩ := hq
      generalize hj : 2 * i = j at *
      have HJ := Lib.hid hj
      have hi9 : i ≤ 1000 := by omega
      clear hj
      have hw1 : Hid (IntKind.i64.wrap ((j : Int) + 1) = ((j + 1 : Nat) : Int)) := Lib.hid (by rw [IntKind.wrap_i64]; omega)
      have ht1 : decide ((j : Int) + 1 < (n : Int)) = true := decide_eq_true (by omega)
      have HNN := HN.out
      go_upto_region 5 with fail
      refine wp_region_class (C := fun w' => ∃ n, w' = wr.drewN n) (by kernel_rfl) (by kernel_rfl) ⟨1, rfl⟩ ?_
      refine wpQ_val rfl (.string s) (fun w' _ => by kernel_rfl) ?_
      refine wpQ_val rfl (.int .i64 j) (fun w' _ => by kernel_rfl) ?_
      refine wpQ_index rfl 9 (.tmp 15) (.tmp 16) rfl (.string s) (.int .i64 j) (.int .u8 x) (by kernel_rfl) (by kernel_rfl) (fun w' _ => e1 w') ?_
      refine wpQ_call rfl 35 #[.int .u8 x] (.int .i64 p) (fun w' _ => by kernel_rfl) (fun w' hC => (cx w').mono fun e w'' ⟨he, hw⟩ => by subst hw; exact ⟨he, hC⟩) ?_
      refine wpQ_val rfl (.string s) (fun w' _ => by kernel_rfl) ?_
      refine wpQ_val rfl (.int .i64 j) (fun w' _ => by kernel_rfl) ?_
      refine wpQ_val rfl (.int .i64 (IntKind.i64.wrap ((j : Int) + 1))) (fun w' _ => by kernel_rfl) ?_
      refine wpQ_index rfl 9 (.tmp 19) (.tmp 21) rfl (.string s) (.int .i64 (IntKind.i64.wrap ((j : Int) + 1))) (.int .u8 y) (by kernel_rfl) (by kernel_rfl) (fun w' _ => by rw [hw1.out]; exact e2 w') ?_
      refine wpQ_call rfl 35 #[.int .u8 y] (.int .i64 q) (fun w' _ => by kernel_rfl) (fun w' hC => (cy w').mono fun e w'' ⟨he, hw⟩ => by subst hw; exact ⟨he, hC⟩) ?_
      refine wpQ_val rfl (.int .i64 p) (fun w' _ => by kernel_rfl) ?_
      refine wpQ_val rfl (.int .i64 q) (fun w' _ => by kernel_rfl) ?_
      refine wpQuiet_nil ?_
      rintro _ ⟨nq, rfl⟩
      simp only [Act.put, List.setIfInBounds_toArray, List.set_cons_succ, List.set_cons_zero]
      have HO2 : Hid ((wr.drewN nq).ownsRow w.heap.size 5 1 (.slice a4 i c4) i (B.map (Value.int .u8))) := Lib.hid HO.out
      have HW2 : Hid (Below w.heap.size w (wr.drewN nq)) := Lib.hid (Below.drewN' HW.out nq)
      clear HO HW cx cy e1 e2 hw1
      generalize wr.drewN nq = V at *
      by_cases hp0 : p < 0
      · have hd : decide (p < 0) = true := decide_eq_true hp0
        have hN := HBD.out (.inl hp0)
        have HN2 := Lib.hid hN
        clear hN HNX HBD
        go_wp2_with fail
        go_ret2
        exact ⟨_, _, rfl, HW2.out, (fun B h => by rw [HN2.out] at h; cases h), fun _ => rfl⟩
      · by_cases hq0 : q < 0
        · have hd0 : decide (p < 0) = false := decide_eq_false hp0
          have hd : decide (q < 0) = true := decide_eq_true hq0
          have hN := HBD.out (.inr hq0)
          have HN2 := Lib.hid hN
          clear hN HNX HBD
          go_wp2_with fail
          go_ret2
          exact ⟨_, _, rfl, HW2.out, (fun B h => by rw [HN2.out] at h; cases h), fun _ => rfl⟩
        · have hd0 : decide (p < 0) = false := decide_eq_false hp0
          have hd : decide (q < 0) = false := decide_eq_false hq0
          have HX := Lib.hid (HNX.out (by omega) (by omega))
          have he : p * 16 + q = 16 * p + q := by omega
          have HE := Lib.hid he
          clear HNX HBD he
          have hq1' : 0 ≤ p * 16 + q := by omega
          have hq2' : p * 16 + q ≤ 255 := by omega
          go_wp2_with (at_builtin; refine append_src rfl _ _ 22 rfl w.heap.size i0 Tryd.underlying22 HI.out HZ0.out HZ1.out HZ2.out _ i _ rfl (HO2.out.alloc _) (some ⟨V.heap.size, 0, none⟩) 1 1 [p * 16 + q] rfl rfl (sl_one _ _ _) (by omega) (by have := HW2.out.size; simp; omega) ?_; intro v3 w3 ho3 hg3; have hb3 := after_append (Nat.le_refl _) (by have := HW2.out.size; simp; omega) (HO2.out.alloc _) (HW2.out.alloc HW2.out.size _) hg3)
          have hO3 : Own w3 w.heap.size v3 (B ++ [16 * p + q]) := by
            unfold Own
            rw [HE.out] at ho3
            have e : (B ++ [16 * p + q]).length = i + 1 := by rw [List.length_append, HBL.out]; rfl
            rw [e, List.map_append]
            exact ho3
          have HO3 := Lib.hid hO3
          have HB3 := Lib.hid hb3
          clear ho3 hg3 hb3 hO3
          try go_wp2_with fail
          go_roundg (n - 2 * (i + 1))
          case measure => have := HJ.out; omega
          case rel => exact ⟨i + 1, B ++ [16 * p + q], by have := HJ.out; omega, by have := HJ.out; congr 1; omega, by rw [List.length_append, HBL.out]; rfl, HO3.out, HB3.out, HX, rfl⟩
    · have HU := Lib.hid hU.out
      have HO := Lib.hid hO
      have HW := Lib.hid hW
      have HBL := Lib.hid hBl
      clear hO hW hU hBl
      generalize hj : 2 * i = j at *
      have HJ := Lib.hid hj
      clear hj
      have ht1 : decide ((j : Int) + 1 < (n : Int)) = false := decide_eq_false (by omega)
      have hj9 : j ≤ 1000 := by omega
      have HNN := HN.out
      rcases Nat.lt_or_ge j n with hjn | hjn
      · have ho : n = j + 1 := by omega
        have HOd := Lib.hid ho
        have hu : unhexL (nums s) = none := by
          rw [HU.out, ← HJ.out, unhexL_odd (nums s) i (by rw [HL.out, ho, HJ.out])]
          rfl
        have HN2 := Lib.hid hu
        have hr : (n : Int) % 2 = 1 := by have := HJ.out; omega
        clear hu ho hi hlt hjn hgk
        go_wp2_with fail
        go_ret2
        exact ⟨_, _, rfl, HW.out, (fun B h => by rw [HN2.out] at h; cases h), fun _ => rfl⟩
      · have ho : n = j := by omega
        have HOd := Lib.hid ho
        have hu : unhexL (nums s) = some B := by
          rw [HU.out, ← HJ.out, unhexL_end (nums s) i (by rw [HL.out, ho, HJ.out])]
          simp
        have HN2 := Lib.hid hu
        have hr : (n : Int) % 2 = 0 := by have := HJ.out; omega
        clear hu ho hi hlt hjn hgk
        go_wp2_with fail
        go_ret2
        exact ⟨_, _, rfl, HW.out, (fun C h => by rw [HN2.out] at h; obtain rfl := Option.some.inj h; exact ⟨rfl, HO.out⟩), fun h => by rw [HN2.out] at h; cases h⟩
end Go.Proofs.YtapojahoaglgaaaDoor
