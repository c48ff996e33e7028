/-
  The program's add, addText, addNumber, writeTransfer: contracts.
-/
import Derived.Test.YtaaeepanelmgnaaPV
namespace Go.Proofs.Ytaaeepanelmgnaa
open Go.RowKit
set_option linter.unusedSimpArgs false
set_option linter.unusedVariables false

/-- A slice of bytes of the call's own is handed back. -/
def OwnO (w : World) (B : Nat) (L : List Int) (e : Ending) (w' : World) : Prop := ∃ v, e = .returned v ∧ Own w' B v L ∧ Below w.heap.size w w'
set_option maxRecDepth 100000 in
set_option maxHeartbeats 8000000 in
theorem q_add (a : Option Addr) (c : Nat) (L : List Int) (x : Fld) (b : Option Addr) (d : Nat) (w : World) (hL : L.length ≤ 900000) (hr : Sl w a c L) (hs : Sl w b d x.bytes) (hB : x.bytes.length ≤ 900000) (hv : Vfi x.num x.kind x.val x.bytes.length) (hw : W64 x.val) :
    Calls Try.prog 49 #[.slice a L.length c, .agg (fdA x b d)] w (OwnO w w.heap.size (L ++ encF x)) := by
  have hb0 : Below w.heap.size w (w.alloc (.cells (fdA x b d) 54)) := (Below.refl _ w).alloc (Nat.le_refl _) _
  have hX0 : Bx (w.alloc (.cells (fdA x b d) 54)) w.heap.size (fdA x b d) 54 := heap_alloc_last w _
  have CF := code_wappend a c L x.num x.kind x.val b d x.bytes (w.alloc (.cells (fdA x b d) 54)) (by omega) (by omega) (sl_below hr hb0) (sl_below hs hb0) hv hw
  have HB0 := Lib.hid hb0
  go_enter Try.func49, Try.ntmps49
  go_upto_region 1 with fail
  change Code.wp _ _ _ _ (w.alloc (.cells (fdA x b d) 54))
  generalize w.alloc (.cells (fdA x b d) 54) = W at *
  obtain ⟨g0, hg0⟩ : ∃ g0, w.heap.size = g0 := ⟨_, rfl⟩
  have HG := Lib.hid hg0
  rw [hg0] at hX0
  simp only [hg0]
  clear hb0 hg0 hr hs hv hw
  apply wp_region_lit
  refine gw_val (by kernel_rfl) (some 8) rfl (.slice a L.length c) (by kernel_rfl) ?_
  simp only [pu1, pu2, pu3, pu4]
  refine gw_load (by kernel_rfl) (some 9) rfl 54 (.tmp 3) rfl ⟨g0, 0, none⟩ (.agg (fdA x b d)) (by kernel_rfl) (load_fdb hX0) ?_
  simp only [pu1, pu2, pu3, pu4]
  refine gw_callE (by kernel_rfl) (some 10) rfl 60 #[.slice a L.length c, .agg (fdA x b d)] (fun v w' => ∃ u, v = .tuple #[u, .int .i64 0] ∧ Own w' W.heap.size u (L ++ encF x) ∧ Below W.heap.size W w') (by kernel_rfl) (CF.mono fun e w' q => by obtain ⟨u, he, h⟩ := q; exact ⟨_, he, u, rfl, h⟩) (fun v V hq => ?_)
  obtain ⟨u, rfl, hO, hb⟩ := hq
  simp only [pu1, pu2, pu3, pu4]
  refine gw_val (by kernel_rfl) (some 7) rfl (.tuple #[u, .int .i64 0]) (by kernel_rfl) ?_
  simp only [pu1, pu2, pu3, pu4]
  refine gw_val (by kernel_rfl) (some 11) rfl (u) (by kernel_rfl) ?_
  simp only [pu1, pu2, pu3, pu4]
  refine gw_val (by kernel_rfl) (some 12) rfl (.int .i64 0) (by kernel_rfl) ?_
  simp only [pu1, pu2, pu3, pu4]
  refine gw_val (by kernel_rfl) (some 5) rfl (u) (by kernel_rfl) ?_
  simp only [pu1, pu2, pu3, pu4]
  refine gw_val (by kernel_rfl) (some 6) rfl (.int .i64 0) (by kernel_rfl) ?_
  simp only [pu1, pu2, pu3, pu4]
  apply wpList_nil
  have HE := Lib.hid (⟨u, rfl, hO.base HB0.out.size, HB0.out.trans (hb.mono HB0.out.size)⟩ : OwnO w w.heap.size (L ++ encF x) (.returned u) V)
  clear hO hb CF hX0 HB0
  go_upto_region 2 with fail
  apply wp_region_lit
  refine gw_val (by kernel_rfl) (some 13) rfl (u) (by kernel_rfl) ?_
  simp only [pu1, pu2, pu3, pu4]
  refine gw_val (by kernel_rfl) (some 4) rfl (u) (by kernel_rfl) ?_
  simp only [pu1, pu2, pu3, pu4]
  apply wpList_nil
  go_wp2_with fail
  go_ret
  exact HE.out
set_option maxRecDepth 100000 in
set_option maxHeartbeats 8000000 in
theorem q_addText (v : Value) (L : List Int) (B : Nat) (k : Int) (s : ByteArray) (w : World) (h : Own w B v L) (hB : B ≤ w.heap.size) (hL : L.length ≤ 900000) (hs : s.size ≤ 900000) (h1 : 1 ≤ k) (h2 : k ≤ 1000) :
    Calls Try.prog 47 #[v, .int .i64 k, .string s] w (OwnO w B (L ++ msg (tF k s))) := by
  by_cases h0 : s.size = 0
  · have HE := Lib.hid (⟨v, rfl, by rw [tF_no h0, msg_nil, List.append_nil]; exact h, Below.refl _ _⟩ : OwnO w B (L ++ msg (tF k s)) (.returned v) w)
    have HQ := mt_true h0
    clear h
    go_enter Try.func47, Try.ntmps47
    go_upto_region 1 with fail
    apply wp_region_lit
    refine gw_val (by kernel_rfl) (some 7) rfl (.string s) (by kernel_rfl) ?_
    simp only [pu1, pu2, pu3, pu4]
    refine gw_val (by kernel_rfl) (some 8) rfl (.bool true) (eql_s rfl s ⟨#[]⟩ HQ (by kernel_rfl) (by kernel_rfl) _) ?_
    simp only [pu1, pu2, pu3, pu4]
    apply wpList_nil
    go_upto_region 2 with fail
    apply wp_region_lit
    refine gw_val (by kernel_rfl) (some 9) rfl (v) (by kernel_rfl) ?_
    simp only [pu1, pu2, pu3, pu4]
    refine gw_val (by kernel_rfl) (some 6) rfl (v) (by kernel_rfl) ?_
    simp only [pu1, pu2, pu3, pu4]
    apply wpList_nil
    go_wp2_with fail
    go_ret
    exact HE.out
  · obtain ⟨a, c, rfl, hsa, hac⟩ := h.sl
    obtain ⟨hbw, hsl, hsz⟩ := conv_world w s (grownCap w s.size 0 5)
    have HQ := mt_false h0
    have CV := fun (ρ : Operand → Value) (o : Oper) (x : Operand) ho hx => conv_s (ρ := ρ) (o := o) (x := x) ho s hx w
    generalize grownCap w s.size 0 5 = d at *
    generalize Lib.bytesWorld w 5 s = W at *
    have CA := q_add a c L ⟨k, 2, 0, nums s⟩ (some ⟨w.heap.size, 0, none⟩) d W hL (sl_below hsa hbw) hsl (by show (nums s).length ≤ _; rw [nums_len]; exact hs) ⟨h1, by show k ≤ 536870911; omega, .inr ⟨rfl, rfl⟩⟩ w64_0
    have HF : Hid (∀ u V, Own V W.heap.size u (L ++ encF ⟨k, 2, 0, nums s⟩) → Below W.heap.size W V → OwnO w B (L ++ msg (tF k s)) (.returned u) V) := Lib.hid fun u V h3 h4 => ⟨u, rfl, by rw [tF_yes h0, msg_cons, msg_nil, List.append_nil]; exact h3.base (Nat.le_trans hB hbw.size), hbw.trans (h4.mono hbw.size)⟩
    obtain ⟨q, hq⟩ : ∃ q, w.heap.size = q := ⟨_, rfl⟩
    rw [hq] at CV CA
    rw [← nums_len s] at CV
    clear h hsl hbw hsz hq hsa hac
    generalize nums s = M at *
    go_enter Try.func47, Try.ntmps47
    go_upto_region 1 with fail
    apply wp_region_lit
    refine gw_val (by kernel_rfl) (some 7) rfl (.string s) (by kernel_rfl) ?_
    simp only [pu1, pu2, pu3, pu4]
    refine gw_val (by kernel_rfl) (some 8) rfl (.bool false) (eql_s rfl s ⟨#[]⟩ HQ (by kernel_rfl) (by kernel_rfl) _) ?_
    simp only [pu1, pu2, pu3, pu4]
    apply wpList_nil
    go_upto_region 3 with fail
    apply wp_region_lit
    refine gw_val (by kernel_rfl) (some 10) rfl (.slice a L.length c) (by kernel_rfl) ?_
    simp only [pu1, pu2, pu3, pu4]
    refine gw_val (by kernel_rfl) (some 11) rfl (.int .i64 k) (by kernel_rfl) ?_
    simp only [pu1, pu2, pu3, pu4]
    refine gw_val (by kernel_rfl) (some 12) rfl (.string s) (by kernel_rfl) ?_
    simp only [pu1, pu2, pu3, pu4]
    refine gw_new (by kernel_rfl) (some 13) rfl (.slice (some ⟨q, 0, none⟩) M.length d) W (CV _ _ _ rfl (by kernel_rfl)) ?_
    simp only [pu1, pu2, pu3, pu4]
    refine gw_val (by kernel_rfl) (some 14) rfl (.agg (fdA ⟨k, 2, 0, M⟩ (some ⟨q, 0, none⟩) d)) (by kernel_rfl) ?_
    simp only [pu1, pu2, pu3, pu4]
    refine gw_callE (by kernel_rfl) (some 15) rfl 49 #[.slice a L.length c, .agg (fdA ⟨k, 2, 0, M⟩ (some ⟨q, 0, none⟩) d)] (fun v w' => Own w' W.heap.size v (L ++ encF ⟨k, 2, 0, M⟩) ∧ Below W.heap.size W w') (by kernel_rfl) (CA) (fun u V hq => ?_)
    simp only [pu1, pu2, pu3, pu4]
    refine gw_val (by kernel_rfl) (some 6) rfl (u) (by kernel_rfl) ?_
    simp only [pu1, pu2, pu3, pu4]
    apply wpList_nil
    have HE := Lib.hid (HF.out u V hq.1 hq.2)
    clear HF hq CA CV
    go_wp2_with fail
    go_ret
    exact HE.out
set_option maxRecDepth 100000 in
set_option maxHeartbeats 8000000 in
theorem q_addNumber (v : Value) (L : List Int) (B : Nat) (k n : Int) (w : World) (h : Own w B v L) (hB : B ≤ w.heap.size) (hL : L.length ≤ 900000) (h1 : 1 ≤ k) (h2 : k ≤ 1000) (hn : W64 n) :
    Calls Try.prog 48 #[v, .int .i64 k, .int .u64 n] w (OwnO w B (L ++ msg (nF k n))) := by
  by_cases h0 : n = 0
  · have HE := Lib.hid (⟨v, rfl, by rw [h0, nF_no, msg_nil, List.append_nil]; exact h, Below.refl _ _⟩ : OwnO w B (L ++ msg (nF k n)) (.returned v) w)
    clear h
    go_enter Try.func48, Try.ntmps48
    go_upto_region 1 with fail
    apply wp_region_lit
    refine gw_val (by kernel_rfl) (some 7) rfl (.int .u64 n) (by kernel_rfl) ?_
    simp only [pu1, pu2, pu3, pu4]
    refine gw_val (by kernel_rfl) (some 8) rfl (.bool true) (eql_u0 rfl n (decide_eq_true h0) (by kernel_rfl) (by kernel_rfl) _) ?_
    simp only [pu1, pu2, pu3, pu4]
    apply wpList_nil
    go_upto_region 2 with fail
    apply wp_region_lit
    refine gw_val (by kernel_rfl) (some 9) rfl (v) (by kernel_rfl) ?_
    simp only [pu1, pu2, pu3, pu4]
    refine gw_val (by kernel_rfl) (some 6) rfl (v) (by kernel_rfl) ?_
    simp only [pu1, pu2, pu3, pu4]
    apply wpList_nil
    go_wp2_with fail
    go_ret
    exact HE.out
  · obtain ⟨a, c, rfl, hsa, hac⟩ := h.sl
    have CA := q_add a c L ⟨k, 0, n, []⟩ none 0 w hL hsa (.inl ⟨rfl, rfl, rfl⟩) (Nat.zero_le _) ⟨h1, by show k ≤ 536870911; omega, .inl ⟨rfl, rfl⟩⟩ hn
    have HF : Hid (∀ u V, Own V w.heap.size u (L ++ encF ⟨k, 0, n, []⟩) → Below w.heap.size w V → OwnO w B (L ++ msg (nF k n)) (.returned u) V) := Lib.hid fun u V h3 h4 => ⟨u, rfl, by rw [nF_yes h0, msg_cons, msg_nil, List.append_nil]; exact h3.base hB, h4⟩
    clear h hsa hac
    go_enter Try.func48, Try.ntmps48
    go_upto_region 1 with fail
    apply wp_region_lit
    refine gw_val (by kernel_rfl) (some 7) rfl (.int .u64 n) (by kernel_rfl) ?_
    simp only [pu1, pu2, pu3, pu4]
    refine gw_val (by kernel_rfl) (some 8) rfl (.bool false) (eql_u0 rfl n (decide_eq_false h0) (by kernel_rfl) (by kernel_rfl) _) ?_
    simp only [pu1, pu2, pu3, pu4]
    apply wpList_nil
    go_upto_region 3 with fail
    apply wp_region_lit
    refine gw_val (by kernel_rfl) (some 10) rfl (.slice a L.length c) (by kernel_rfl) ?_
    simp only [pu1, pu2, pu3, pu4]
    refine gw_val (by kernel_rfl) (some 11) rfl (.int .i64 k) (by kernel_rfl) ?_
    simp only [pu1, pu2, pu3, pu4]
    refine gw_val (by kernel_rfl) (some 12) rfl (.int .u64 n) (by kernel_rfl) ?_
    simp only [pu1, pu2, pu3, pu4]
    refine gw_val (by kernel_rfl) (some 13) rfl (.agg (fdA ⟨k, 0, n, []⟩ none 0)) (by kernel_rfl) ?_
    simp only [pu1, pu2, pu3, pu4]
    refine gw_callE (by kernel_rfl) (some 14) rfl 49 #[.slice a L.length c, .agg (fdA ⟨k, 0, n, []⟩ none 0)] (fun v w' => Own w' w.heap.size v (L ++ encF ⟨k, 0, n, []⟩) ∧ Below w.heap.size w w') (by kernel_rfl) (CA) (fun u V hq => ?_)
    simp only [pu1, pu2, pu3, pu4]
    refine gw_val (by kernel_rfl) (some 6) rfl (u) (by kernel_rfl) ?_
    simp only [pu1, pu2, pu3, pu4]
    apply wpList_nil
    have HE := Lib.hid (HF.out u V hq.1 hq.2)
    clear HF hq CA
    go_wp2_with fail
    go_ret
    exact HE.out
/-- What the region keeps. -/
structure KWT (W : World) (g0 : Nat) (x : Tf) (b2 b5 b6 : Bool) (x5 x8 x2 : Value) (V : World) : Prop where
  bel : Below W.heap.size W V
  bx : Bx V g0 (tfA x) 58
  o5 : b2 = true → Own V W.heap.size x5 (msg (tF 1 x.1))
  o8 : b5 = true → Own V W.heap.size x8 (msg (trF x))
  o2 : b6 = true → Own V W.heap.size x2 (msg (trF x))
set_option maxRecDepth 100000 in
set_option maxHeartbeats 8000000 in
theorem q_writeTransfer (x : Tf) (w : World) (hs : x.1.size ≤ 800000) (hv : W64 x.2) :
    Calls Try.prog 50 #[.agg (tfA x)] w (OwnO w w.heap.size (msg (trF x))) := by
  have hb0 : Below w.heap.size w (w.alloc (.cells (tfA x) 58)) := (Below.refl _ w).alloc (Nat.le_refl _) _
  have hX0 : Bx (w.alloc (.cells (tfA x) 58)) w.heap.size (tfA x) 58 := heap_alloc_last w _
  have HB0 := Lib.hid hb0
  go_enter Try.func50, Try.ntmps50
  go_upto_region 1 with fail
  change Code.wp _ _ _ _ (w.alloc (.cells (tfA x) 58))
  generalize w.alloc (.cells (tfA x) 58) = W at *
  obtain ⟨g0, hg0⟩ : ∃ g0, w.heap.size = g0 := ⟨_, rfl⟩
  rw [hg0] at hX0
  simp only [hg0]
  have h0 : KWT W g0 x false false false undef undef (.slice none 0 0) W.drew := ⟨(Below.refl _ W).drew, hX0, (fun h => nomatch h), (fun h => nomatch h), (fun h => nomatch h)⟩
  have CT : ∀ V, Below W.heap.size W V → Calls Try.prog 47 #[.slice none 0 0, .int .i64 1, .string x.1] V (OwnO V W.heap.size (msg (tF 1 x.1))) := fun V hV => by
    have := q_addText (.slice none 0 0) [] W.heap.size 1 x.1 V (Own.nil V _) hV.size (Nat.zero_le _) (by omega) (by decide) (by decide)
    rwa [List.nil_append] at this
  have CN : ∀ V u, Below W.heap.size W V → Own V W.heap.size u (msg (tF 1 x.1)) → Calls Try.prog 48 #[u, .int .i64 2, .int .u64 x.2] V (OwnO V W.heap.size (msg (trF x))) := fun V u hV hu => by
    have := q_addNumber u (msg (tF 1 x.1)) W.heap.size 2 x.2 V hu hV.size (by have := msg_tF 1 x.1; omega) (by decide) (by decide) hv
    rwa [← msg_app] at this
  clear hb0 hX0
  refine wp_region_inv (fun listed act9 V => ∃ b0 b1 b2 b3 b4 b5 b6 : Bool, ∃ x5 x8 x2 : Value, listed = #[b0, b1, b2, b3, b4, b5, b6] ∧ act9 = { tmps := #[.agg (tfA x), .pointer (some ⟨g0, 0, none⟩), x2, (cond b0 (.pointer (some ⟨g0, 0, none⟩)) undef), (cond b1 (.string x.1) undef), x5, (cond b3 (.pointer (some ⟨g0, 1, none⟩)) undef), (cond b4 (.int .u64 x.2) undef), x8], defers := [] } ∧ KWT W g0 x b2 b5 b6 x5 x8 x2 V) (by kernel_rfl) (by kernel_rfl) ?_ ?_ ?_
  · exact ⟨false, false, false, false, false, false, false, undef, undef, .slice none 0 0, rfl, rfl, h0⟩
  · intro i9 listed act9 V hi9 hr hJ
    obtain ⟨b0, b1, b2, b3, b4, b5, b6, x5, x8, x2, rfl, rfl, hF⟩ := hJ
    have hi2 : i9 < 7 := hi9
    have hi3 : i9 = 0 ∨ i9 = 1 ∨ i9 = 2 ∨ i9 = 3 ∨ i9 = 4 ∨ i9 = 5 ∨ i9 = 6 := by omega
    rcases hi3 with rfl | rfl | rfl | rfl | rfl | rfl | rfl
    · obtain rfl : b0 = false := ready_self hr
      refine st_val rfl (by kernel_rfl) (some 3) rfl (.pointer (some ⟨g0, 0, none⟩)) V (by kernel_rfl) ?_
      exact ⟨true, b1, b2, b3, b4, b5, b6, x5, x8, x2, rfl, rfl, hF⟩
    · obtain rfl : b1 = false := ready_self hr
      obtain rfl : b0 = true := ready_dep hr 0 (by kernel_rfl)
      refine st_load rfl (by kernel_rfl) (some 4) rfl 9 (.tmp 3) rfl ⟨g0, 0, none⟩ (.string x.1) (by kernel_rfl) (hF.bx.load (i := 0) rfl (by kernel_rfl)) ?_
      exact ⟨true, true, b2, b3, b4, b5, b6, x5, x8, x2, rfl, rfl, hF⟩
    · obtain rfl : b2 = false := ready_self hr
      obtain rfl : b1 = true := ready_dep hr 1 (by kernel_rfl)
      refine st_call rfl (by kernel_rfl) (some 5) rfl 47 #[.slice none 0 0, .int .i64 1, .string x.1] (by kernel_rfl) ((CT V hF.bel).mono ?_)
      rintro e V2 ⟨v, rfl, hO, hb⟩
      exact ⟨v, rfl, b0, true, true, b3, b4, b5, b6, v, x8, x2, rfl, rfl, ⟨hF.bel.trans (hb.mono hF.bel.size), hF.bx.below hF.bx.lt hb, fun _ => hO, fun h => (hF.o8 h).below hb, fun h => (hF.o2 h).below hb⟩⟩
    · obtain rfl : b3 = false := ready_self hr
      refine st_val rfl (by kernel_rfl) (some 6) rfl (.pointer (some ⟨g0, 1, none⟩)) V (by kernel_rfl) ?_
      exact ⟨b0, b1, b2, true, b4, b5, b6, x5, x8, x2, rfl, rfl, hF⟩
    · obtain rfl : b4 = false := ready_self hr
      obtain rfl : b3 = true := ready_dep hr 3 (by kernel_rfl)
      refine st_load rfl (by kernel_rfl) (some 7) rfl 26 (.tmp 6) rfl ⟨g0, 1, none⟩ (.int .u64 x.2) (by kernel_rfl) (hF.bx.load (i := 1) rfl (by kernel_rfl)) ?_
      exact ⟨b0, b1, b2, true, true, b5, b6, x5, x8, x2, rfl, rfl, hF⟩
    · obtain rfl : b5 = false := ready_self hr
      obtain rfl : b2 = true := ready_dep hr 2 (by kernel_rfl)
      obtain rfl : b4 = true := ready_dep hr 4 (by kernel_rfl)
      refine st_call rfl (by kernel_rfl) (some 8) rfl 48 #[x5, .int .i64 2, .int .u64 x.2] (by kernel_rfl) ((CN V x5 hF.bel (hF.o5 rfl)).mono ?_)
      rintro e V2 ⟨v, rfl, hO, hb⟩
      exact ⟨v, rfl, b0, b1, true, b3, true, true, b6, x5, v, x2, rfl, rfl, ⟨hF.bel.trans (hb.mono hF.bel.size), hF.bx.below hF.bx.lt hb, fun h => (hF.o5 h).below hb, fun _ => hO, fun h => (hF.o2 h).below hb⟩⟩
    · obtain rfl : b6 = false := ready_self hr
      obtain rfl : b5 = true := ready_dep hr 5 (by kernel_rfl)
      refine st_val rfl (by kernel_rfl) (some 2) rfl x8 V (by kernel_rfl) ?_
      exact ⟨b0, b1, b2, b3, b4, true, true, x5, x8, x8, rfl, rfl, ⟨hF.bel, hF.bx, hF.o5, hF.o8, fun _ => hF.o8 rfl⟩⟩
  · intro act9 V hJ
    obtain ⟨b0, b1, b2, b3, b4, b5, b6, x5, x8, x2, he, rfl, hF⟩ := hJ
    have he : (#[true, true, true, true, true, true, true] : Array Bool) = #[b0, b1, b2, b3, b4, b5, b6] := he
    simp only [Array.mk.injEq, List.cons.injEq, and_true] at he
    obtain ⟨rfl, rfl, rfl, rfl, rfl, rfl, rfl⟩ := he
    simp only [cond_true]
    have HE := Lib.hid (⟨x2, rfl, (hF.o2 rfl).base HB0.out.size, HB0.out.trans (hF.bel.mono HB0.out.size)⟩ : OwnO w w.heap.size (msg (trF x)) (.returned x2) V)
    clear hF CT CN h0 HB0
    go_wp2_with fail
    go_ret
    exact HE.out
end Go.Proofs.Ytaaeepanelmgnaa
