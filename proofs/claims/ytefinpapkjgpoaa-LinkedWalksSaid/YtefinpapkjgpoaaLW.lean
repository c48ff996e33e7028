/-
  The walk of the statement on walks there and back, over what the program's functions are held to.
-/
import Derived.Test.YtefinpapkjgpoaaLQ
import Derived.Test.YtefinpapkjgpoaaLS
namespace Go.Proofs.Ytefinpapkjgpoaa
open Go.RowKit
set_option linter.unusedSimpArgs false
set_option linter.unusedVariables false

/-- What the walks keep: the program's list, and the row of its values. -/
def WK (R : Rep) (w : World) (gl : Nat) (m : LM) (av : Option Addr) (V : World) : Prop := KN R w gl m V ∧ Cs V av (icells (valuesM m))
theorem WK.below {R : Rep} (hC : ListC R 23 25 27 28 29 18 15 17 20 22 12 14) {w V V2 : World} {gl : Nat} {m : LM} {av : Option Addr} (h : WK R w gl m av V) (hb : Below V.heap.size V V2) : WK R w gl m av V2 := ⟨h.1.below hC hb, h.2.below hb⟩
theorem calls_both {f : FuncId} {args : Array Value} {R : Rep} {w V : World} {gl : Nat} {m : LM} {av : Option Addr} {v : Value} (hC : ListC R 23 25 27 28 29 18 15 17 20 22 12 14) (h : WK R w gl m av V) (c : ∀ S, R V gl S m → Calls Try.prog f args V fun e w' => e = .returned v ∧ Below V.heap.size V w') : Calls Try.prog f args V fun e w' => e = .returned v ∧ WK R w gl m av w' := by
  obtain ⟨S, hr, -, -⟩ := h.1
  exact (c S hr).mono fun e w' q => ⟨q.1, h.below hC q.2⟩
set_option maxRecDepth 100000 in
set_option maxHeartbeats 4000000 in
theorem walks_core {R : Rep} (hC : ListC R 23 25 27 28 29 18 15 17 20 22 12 14) (a : Option Addr) (c : Nat) (L : List Int) (w : World) (hL : Cs w a (icells L)) (hl : L.length ≤ 9223372036854775807) :
    Calls Try.prog 5 #[.slice a L.length c] w fun e w' => e = .returned (.bool true) ∧ Below w.heap.size w w' := by
  have hb1 : Below w.heap.size w (w.alloc (.cells #[.slice a L.length c] 22)) := (Below.refl _ w).alloc (Nat.le_refl _) _
  have hX1 : Bx (w.alloc (.cells #[.slice a L.length c] 22)) w.heap.size #[.slice a L.length c] 22 := heap_alloc_last w _
  have CLn := long_one w.heap.size a L.length c _ hX1 hl
  have CK := known_true hC (w.alloc (.cells #[.slice a L.length c] 22))
  have HL := Lib.hid hL
  obtain ⟨n, hn⟩ : ∃ n, L.length = n := ⟨_, rfl⟩
  by_cases hm : 160 < L.length
  · have hd : decide ((160 : Int) < (L.length : Int)) = true := decide_eq_true (by omega)
    rw [hd] at CLn
    rw [hn] at hb1 CLn CK ⊢
    clear hX1 hL hd HL
    go_enter Try.func5, Try.ntmps5
    go_upto_region 1 with fail
    apply wp_region_lit
    refine gw_val (by kernel_rfl) (some 14) rfl (.slice a n c) (by kernel_rfl) ?_
    simp only [Act.put, List.setIfInBounds_toArray, List.set_cons_succ, List.set_cons_zero]
    refine gw_build (by kernel_rfl) (some 15) rfl 51 1 #[(0, .tmp 14)] rfl #[(0, .slice a n c)] (by kernel_rfl) (.slice (some ⟨w.heap.size, 0, none⟩) 1 1) _ (one_row a n c w) ?_
    simp only [Act.put, List.setIfInBounds_toArray, List.set_cons_succ, List.set_cons_zero]
    generalize w.alloc (.cells #[.slice a n c] 22) = W1 at *
    refine gw_call (by kernel_rfl) (some 16) rfl 8 #[.slice (some ⟨w.heap.size, 0, none⟩) 1 1] (.bool true) (fun w' => W1 = w') (by kernel_rfl) CLn (fun W2 hW => ?_)
    subst hW
    simp only [Act.put, List.setIfInBounds_toArray, List.set_cons_succ, List.set_cons_zero]
    apply wpList_nil
    clear CLn hl hm hn
    go_wp2_with (go_at_call 9; refine CK.mono ?_; rintro e w9 ⟨rfl, hb9⟩)
    have HB := Lib.hid (hb1.trans (hb9.mono hb1.size))
    clear hb1 hb9 CK
    go_ret
    exact ⟨rfl, HB.out⟩
  · have hd : decide ((160 : Int) < (L.length : Int)) = false := decide_eq_false (by omega)
    rw [hd] at CLn
    have CPl := play_core hC a c L _ (hL.below hb1) (by omega)
    rw [hn] at hb1 CLn CK CPl ⊢
    clear hX1 hL hd HL CK
    go_enter Try.func5, Try.ntmps5
    go_upto_region 1 with fail
    apply wp_region_lit
    refine gw_val (by kernel_rfl) (some 14) rfl (.slice a n c) (by kernel_rfl) ?_
    simp only [Act.put, List.setIfInBounds_toArray, List.set_cons_succ, List.set_cons_zero]
    refine gw_build (by kernel_rfl) (some 15) rfl 51 1 #[(0, .tmp 14)] rfl #[(0, .slice a n c)] (by kernel_rfl) (.slice (some ⟨w.heap.size, 0, none⟩) 1 1) _ (one_row a n c w) ?_
    simp only [Act.put, List.setIfInBounds_toArray, List.set_cons_succ, List.set_cons_zero]
    generalize w.alloc (.cells #[.slice a n c] 22) = W1 at *
    refine gw_call (by kernel_rfl) (some 16) rfl 8 #[.slice (some ⟨w.heap.size, 0, none⟩) 1 1] (.bool false) (fun w' => W1 = w') (by kernel_rfl) CLn (fun W2 hW => ?_)
    subst hW
    simp only [Act.put, List.setIfInBounds_toArray, List.set_cons_succ, List.set_cons_zero]
    apply wpList_nil
    clear CLn hl hm hn
    go_upto_region 3 with fail
    apply wp_region_lit
    refine gw_val (by kernel_rfl) (some 19) rfl (.slice a n c) (by kernel_rfl) ?_
    simp only [Act.put, List.setIfInBounds_toArray, List.set_cons_succ, List.set_cons_zero]
    refine gw_callE (by kernel_rfl) (some 20) rfl 10 #[.slice a n c] (fun v w' => ∃ gl ea fa ec fc m, v = .tuple #[.pointer (some ⟨gl, 0, none⟩), .agg (lv ea fa ec fc m), .bool true] ∧ KN R w gl m w' ∧ LV w' ea fa ec fc m ∧ Wm m ∧ Ok m 200) (by kernel_rfl) (CPl.mono fun e w' h => by
      obtain ⟨gl, S, ea, fa, ec, fc, m, he, hr, hlv, hw, ho, hb, hs⟩ := h
      exact ⟨_, he, gl, ea, fa, ec, fc, m, rfl, ⟨S, hr, fun k hk => Nat.le_trans hb1.size (hs k hk), hb1.trans (hb.mono hb1.size)⟩, hlv, hw, ho⟩) (fun v V2 hq => ?_)
    obtain ⟨gl, ea, fa, ec, fc, m, rfl, hk2, hl2, hw2, ho2⟩ := hq
    simp only [Act.put, List.setIfInBounds_toArray, List.set_cons_succ, List.set_cons_zero]
    refine gw_val (by kernel_rfl) (some 18) rfl (.tuple #[.pointer (some ⟨gl, 0, none⟩), .agg (lv ea fa ec fc m), .bool true]) (by kernel_rfl) ?_
    simp only [Act.put, List.setIfInBounds_toArray, List.set_cons_succ, List.set_cons_zero]
    refine gw_val (by kernel_rfl) (some 21) rfl (.pointer (some ⟨gl, 0, none⟩)) (by kernel_rfl) ?_
    simp only [Act.put, List.setIfInBounds_toArray, List.set_cons_succ, List.set_cons_zero]
    refine gw_val (by kernel_rfl) (some 22) rfl (.agg (lv ea fa ec fc m)) (by kernel_rfl) ?_
    simp only [Act.put, List.setIfInBounds_toArray, List.set_cons_succ, List.set_cons_zero]
    refine gw_val (by kernel_rfl) (some 23) rfl (.bool true) (by kernel_rfl) ?_
    simp only [Act.put, List.setIfInBounds_toArray, List.set_cons_succ, List.set_cons_zero]
    refine run_to rfl (some 4) rfl (.pointer (some ⟨V2.heap.size, 0, none⟩)) (V2.alloc (.cells zl 28)) (by kernel_rfl) ?_
    simp only [Act.put, List.setIfInBounds_toArray, List.set_cons_succ, List.set_cons_zero]
    refine gw_val (by kernel_rfl) (some 3) rfl (.pointer (some ⟨gl, 0, none⟩)) (by kernel_rfl) ?_
    simp only [Act.put, List.setIfInBounds_toArray, List.set_cons_succ, List.set_cons_zero]
    apply wpList_store_new (w := V2) (ty := 28) (x := .tmp 4) (y := .tmp 22) (c := zl) (c' := lv ea fa ec fc m)
    case hgd => rfl
    case ho => rfl
    case hx => kernel_rfl
    case hy => kernel_rfl
    case hi => kernel_rfl
    case hz => rfl
    case h1 => exact one_lv _ _ _ _ _ _ _
    simp only [Act.put]
    refine gw_val (by kernel_rfl) (some 5) rfl (.bool true) (by kernel_rfl) ?_
    simp only [Act.put, List.setIfInBounds_toArray, List.set_cons_succ, List.set_cons_zero]
    apply wpList_nil
    have hb3 : Below V2.heap.size V2 (V2.alloc (.cells (lv ea fa ec fc m) 28)) := (Below.refl _ V2).alloc (Nat.le_refl _) _
    have hbx : Bx (V2.alloc (.cells (lv ea fa ec fc m) 28)) V2.heap.size (lv ea fa ec fc m) 28 := heap_alloc_last V2 _
    have hk3 := hk2.below hC hb3
    have hl3 := hl2.below hb3
    generalize V2.alloc (.cells (lv ea fa ec fc m) 28) = V3 at *
    generalize V2.heap.size = g4 at *
    have hok : Ok m 900 := ho2.mono (by omega)
    have hle : m.E.length ≤ 900 := hok.1
    have CK := fun V => known_true hC V
    clear hk2 hl2 hb3 hb1 CPl hbx hl3
    have CVs := hk3.values hC hw2 hok
    go_upto_region 6 with fail
    apply wp_region_lit
    refine gw_val (by kernel_rfl) (some 26) rfl (.pointer (some ⟨gl, 0, none⟩)) (by kernel_rfl) ?_
    simp only [Act.put, List.setIfInBounds_toArray, List.set_cons_succ, List.set_cons_zero]
    refine gw_callE (by kernel_rfl) (some 27) rfl 12 #[.pointer (some ⟨gl, 0, none⟩)] (fun v w' => ∃ av cv, v = .slice av m.E.length cv ∧ WK R w gl m av w') (by kernel_rfl) (CVs.mono fun e w' q => by
      obtain ⟨av, cv, he, hc, -, hk, -⟩ := q
      exact ⟨_, he, av, cv, rfl, hk, hc⟩) (fun v V4 hq => ?_)
    obtain ⟨av, cv, rfl, h4⟩ := hq
    clear hk3 CVs
    simp only [Act.put, List.setIfInBounds_toArray, List.set_cons_succ, List.set_cons_zero]
    refine gw_val (by kernel_rfl) (some 6) rfl (.slice av m.E.length cv) (by kernel_rfl) ?_
    simp only [Act.put, List.setIfInBounds_toArray, List.set_cons_succ, List.set_cons_zero]
    apply wpList_nil
    have hlen64 : I64 m.E.length := ⟨by omega, by omega⟩
    have hvl : (valuesM m).length = m.E.length := valuesM_len m
    have C15 := calls_both hC h4 (fun S hr => hC.first V4 gl S m hr hw2 hok)
    have C17 := fun V (h : WK R w gl m av V) => calls_both hC h (fun S hr => hC.last V gl S m hr hw2 hok)
    go_upto_region 8 with fail
    apply wp_region_lit
    refine gw_val (by kernel_rfl) (some 28) rfl (.pointer (some ⟨gl, 0, none⟩)) (by kernel_rfl) ?_
    simp only [Act.put, List.setIfInBounds_toArray, List.set_cons_succ, List.set_cons_zero]
    refine gw_call (by kernel_rfl) (some 29) rfl 15 #[.pointer (some ⟨gl, 0, none⟩)] (.int .i64 (slotAt m 0)) (WK R w gl m av) (by kernel_rfl) (C15) (fun V5 hV5 => ?_)
    simp only [Act.put, List.setIfInBounds_toArray, List.set_cons_succ, List.set_cons_zero]
    clear C15 h4
    refine gw_val (by kernel_rfl) (some 8) rfl (.int .i64 (slotAt m 0)) (by kernel_rfl) ?_
    simp only [Act.put, List.setIfInBounds_toArray, List.set_cons_succ, List.set_cons_zero]
    apply wpList_nil
    go_wp2_with fail
    go_loopg [7, 8] (m.E.length) (fun gg s7 s8 wx => ∃ i : Nat, s7 = .int .i64 i ∧ s8 = .int .i64 (slotAt m i) ∧ i ≤ m.E.length ∧ WK R w gl m av wx ∧ m.E.length - i = gg)
    case atStart => exact ⟨0, rfl, rfl, by omega, hV5, rfl⟩
    case round =>
      obtain ⟨i, rfl, rfl, hi, hk, hg⟩ := hrel
      clear hV5
      rcases hw2.at i hi with ⟨hlt, h0⟩ | ⟨rfl, h1⟩
      · have hsl := slotAt_in m hlt
        have hvv := valuesM_at m hlt
        have hx := hw2.value hlt
        have hn := hw2.next hlt 1
        have hu := hok.2.2
        have hr := hw2.slot_range hlt
        obtain ⟨b, off, rfl, hbb, hcx⟩ := int_at hk.2 (k := i) (by rw [hvl]; exact hlt)
        rw [hvv] at hcx
        rw [hsl] at h0 ⊢
        generalize (m.E.getD i (0, 0)).1 = s at *
        generalize (m.E.getD i (0, 0)).2 = vv at *
        have hs64 : I64 s := ⟨by omega, by omega⟩
        have hsd : decide (0 ≤ s) = true := decide_eq_true h0
        have hid : decide ((i : Int) ≤ (m.E.length : Int)) = true := decide_eq_true (by omega)
        have hid2 : decide ((m.E.length : Int) ≤ (i : Int)) = false := decide_eq_false (by omega)
        have hwi : IntKind.i64.wrap ((i : Int) + 1) = ((i + 1 : Nat) : Int) := by rw [IntKind.wrap_i64]; omega
        rw [show (i : Int) + 1 = ((i + 1 : Nat) : Int) by omega] at hn
        have C18 := calls_both hC hk (fun S hr => hC.value wr gl S m s hr hw2 hok hs64)
        have C20 := fun V (h : WK R w gl m (some ⟨b, off, none⟩) V) => calls_both hC h (fun S hr => hC.next V gl S m s hr hw2 hok hs64)
        rw [hx] at C18
        rw [hn] at C20
        have CB := fun V (h : WK R w gl m (some ⟨b, off, none⟩) V) => (by
          obtain ⟨b2, o2, e2, -, h2⟩ := int_at h.2 (k := i) (by rw [hvl]; exact hlt)
          simp only [Option.some.injEq, Addr.mk.injEq, and_true] at e2
          obtain ⟨rfl, rfl⟩ := e2
          rw [hvv] at h2
          exact h2 : V.cell? ⟨b, off + i, none⟩ = some (.int .i64 vv))
        have HG : Hid (m.E.length - (i + 1) = gk - 1 ∧ 0 < gk ∧ i + 1 ≤ m.E.length) := Lib.hid ⟨by omega, by omega, by omega⟩
        generalize hnx : slotAt m ((i + 1 : Nat) : Int) = nx at *
        have HNX := Lib.hid hnx
        clear hx hn hg hr hu hsl hvv hcx h0 hi C17 CK hnx
        go_upto_region 9 with fail
        apply wp_region_lit
        refine gw_val (by kernel_rfl) (some 30) rfl (.int .i64 s) (by kernel_rfl) ?_
        simp only [Act.put, List.setIfInBounds_toArray, List.set_cons_succ, List.set_cons_zero]
        refine gw_val (by kernel_rfl) (some 31) rfl (.bool (decide (0 ≤ s))) (by kernel_rfl) ?_
        rw [hsd]
        simp only [Act.put, List.setIfInBounds_toArray, List.set_cons_succ, List.set_cons_zero]
        refine gw_val (by kernel_rfl) (some 32) rfl (.bool true) (by kernel_rfl) ?_
        simp only [Act.put, List.setIfInBounds_toArray, List.set_cons_succ, List.set_cons_zero]
        refine gw_val (by kernel_rfl) (some 33) rfl (.int .i64 i) (by kernel_rfl) ?_
        simp only [Act.put, List.setIfInBounds_toArray, List.set_cons_succ, List.set_cons_zero]
        refine gw_val (by kernel_rfl) (some 34) rfl (.slice (some ⟨b, off, none⟩) m.E.length cv) (by kernel_rfl) ?_
        simp only [Act.put, List.setIfInBounds_toArray, List.set_cons_succ, List.set_cons_zero]
        refine gw_val (by kernel_rfl) (some 35) rfl (.int .i64 m.E.length) (by kernel_rfl) ?_
        simp only [Act.put, List.setIfInBounds_toArray, List.set_cons_succ, List.set_cons_zero]
        refine gw_val (by kernel_rfl) (some 36) rfl (.bool (decide ((i : Int) ≤ (m.E.length : Int)))) (by kernel_rfl) ?_
        rw [hid]
        simp only [Act.put, List.setIfInBounds_toArray, List.set_cons_succ, List.set_cons_zero]
        refine gw_val (by kernel_rfl) (some 37) rfl (.bool true) (by kernel_rfl) ?_
        simp only [Act.put, List.setIfInBounds_toArray, List.set_cons_succ, List.set_cons_zero]
        apply wpList_nil
        go_upto_region 11 with fail
        apply wp_region_lit
        refine gw_val (by kernel_rfl) (some 42) rfl (.pointer (some ⟨gl, 0, none⟩)) (by kernel_rfl) ?_
        simp only [Act.put, List.setIfInBounds_toArray, List.set_cons_succ, List.set_cons_zero]
        refine gw_val (by kernel_rfl) (some 43) rfl (.int .i64 s) (by kernel_rfl) ?_
        simp only [Act.put, List.setIfInBounds_toArray, List.set_cons_succ, List.set_cons_zero]
        refine gw_call (by kernel_rfl) (some 44) rfl 18 #[.pointer (some ⟨gl, 0, none⟩), .int .i64 s] (.tuple #[.int .i64 vv, .bool true]) (WK R w gl m (some ⟨b, off, none⟩)) (by kernel_rfl) (C18) (fun V6 hV6 => ?_)
        simp only [Act.put, List.setIfInBounds_toArray, List.set_cons_succ, List.set_cons_zero]
        clear C18 hk
        refine gw_val (by kernel_rfl) (some 41) rfl (.tuple #[.int .i64 vv, .bool true]) (by kernel_rfl) ?_
        simp only [Act.put, List.setIfInBounds_toArray, List.set_cons_succ, List.set_cons_zero]
        refine gw_val (by kernel_rfl) (some 45) rfl (.int .i64 vv) (by kernel_rfl) ?_
        simp only [Act.put, List.setIfInBounds_toArray, List.set_cons_succ, List.set_cons_zero]
        refine gw_val (by kernel_rfl) (some 46) rfl (.bool true) (by kernel_rfl) ?_
        simp only [Act.put, List.setIfInBounds_toArray, List.set_cons_succ, List.set_cons_zero]
        refine gw_val (by kernel_rfl) (some 9) rfl (.int .i64 vv) (by kernel_rfl) ?_
        simp only [Act.put, List.setIfInBounds_toArray, List.set_cons_succ, List.set_cons_zero]
        refine gw_val (by kernel_rfl) (some 10) rfl (.bool true) (by kernel_rfl) ?_
        simp only [Act.put, List.setIfInBounds_toArray, List.set_cons_succ, List.set_cons_zero]
        apply wpList_nil
        go_upto_region 12 with fail
        apply wp_region_lit
        refine gw_val (by kernel_rfl) (some 47) rfl (.bool true) (by kernel_rfl) ?_
        simp only [Act.put, List.setIfInBounds_toArray, List.set_cons_succ, List.set_cons_zero]
        refine gw_val (by kernel_rfl) (some 48) rfl (.bool false) (by kernel_rfl) ?_
        simp only [Act.put, List.setIfInBounds_toArray, List.set_cons_succ, List.set_cons_zero]
        refine gw_val (by kernel_rfl) (some 49) rfl (.bool false) (by kernel_rfl) ?_
        simp only [Act.put, List.setIfInBounds_toArray, List.set_cons_succ, List.set_cons_zero]
        refine gw_val (by kernel_rfl) (some 50) rfl (.int .i64 i) (by kernel_rfl) ?_
        simp only [Act.put, List.setIfInBounds_toArray, List.set_cons_succ, List.set_cons_zero]
        refine gw_val (by kernel_rfl) (some 51) rfl (.slice (some ⟨b, off, none⟩) m.E.length cv) (by kernel_rfl) ?_
        simp only [Act.put, List.setIfInBounds_toArray, List.set_cons_succ, List.set_cons_zero]
        refine gw_val (by kernel_rfl) (some 52) rfl (.int .i64 m.E.length) (by kernel_rfl) ?_
        simp only [Act.put, List.setIfInBounds_toArray, List.set_cons_succ, List.set_cons_zero]
        refine gw_val (by kernel_rfl) (some 53) rfl (.bool (decide ((m.E.length : Int) ≤ (i : Int)))) (by kernel_rfl) ?_
        rw [hid2]
        simp only [Act.put, List.setIfInBounds_toArray, List.set_cons_succ, List.set_cons_zero]
        refine gw_val (by kernel_rfl) (some 54) rfl (.bool false) (by kernel_rfl) ?_
        simp only [Act.put, List.setIfInBounds_toArray, List.set_cons_succ, List.set_cons_zero]
        refine gw_val (by kernel_rfl) (some 55) rfl (.bool false) (by kernel_rfl) ?_
        simp only [Act.put, List.setIfInBounds_toArray, List.set_cons_succ, List.set_cons_zero]
        refine gw_val (by kernel_rfl) (some 56) rfl (.slice (some ⟨b, off, none⟩) m.E.length cv) (by kernel_rfl) ?_
        simp only [Act.put, List.setIfInBounds_toArray, List.set_cons_succ, List.set_cons_zero]
        refine gw_val (by kernel_rfl) (some 57) rfl (.int .i64 i) (by kernel_rfl) ?_
        simp only [Act.put, List.setIfInBounds_toArray, List.set_cons_succ, List.set_cons_zero]
        refine gw_val (by kernel_rfl) (some 58) rfl (.pointer (some ⟨b, off + i, none⟩)) (idx_int b off m.E.length cv i hlt _ _ _ rfl (by kernel_rfl) (by kernel_rfl)) ?_
        simp only [Act.put, List.setIfInBounds_toArray, List.set_cons_succ, List.set_cons_zero]
        refine gw_load (by kernel_rfl) (some 59) rfl 3 (.tmp 58) rfl ⟨b, off + i, none⟩ (.int .i64 vv) (by kernel_rfl) (load_cell (CB _ hV6) (by kernel_rfl)) ?_
        simp only [Act.put, List.setIfInBounds_toArray, List.set_cons_succ, List.set_cons_zero]
        refine gw_val (by kernel_rfl) (some 60) rfl (.int .i64 vv) (by kernel_rfl) ?_
        simp only [Act.put, List.setIfInBounds_toArray, List.set_cons_succ, List.set_cons_zero]
        refine gw_val (by kernel_rfl) (some 61) rfl (.bool ((vv) != (vv))) (by kernel_rfl) ?_
        rw [bne_self_eq_false]
        simp only [Act.put, List.setIfInBounds_toArray, List.set_cons_succ, List.set_cons_zero]
        refine gw_val (by kernel_rfl) (some 62) rfl (.bool false) (by kernel_rfl) ?_
        simp only [Act.put, List.setIfInBounds_toArray, List.set_cons_succ, List.set_cons_zero]
        apply wpList_nil
        go_upto_region 14 with fail
        apply wp_region_lit
        refine gw_val (by kernel_rfl) (some 63) rfl (.int .i64 i) (by kernel_rfl) ?_
        simp only [Act.put, List.setIfInBounds_toArray, List.set_cons_succ, List.set_cons_zero]
        refine gw_val (by kernel_rfl) (some 64) rfl (.int .i64 (IntKind.i64.wrap ((i : Int) + 1))) (by kernel_rfl) ?_
        rw [hwi]
        simp only [Act.put, List.setIfInBounds_toArray, List.set_cons_succ, List.set_cons_zero]
        refine gw_val (by kernel_rfl) (some 7) rfl (.int .i64 ((i + 1 : Nat) : Int)) (by kernel_rfl) ?_
        simp only [Act.put, List.setIfInBounds_toArray, List.set_cons_succ, List.set_cons_zero]
        apply wpList_nil
        go_upto_region 10 with fail
        apply wp_region_lit
        refine gw_val (by kernel_rfl) (some 38) rfl (.pointer (some ⟨gl, 0, none⟩)) (by kernel_rfl) ?_
        simp only [Act.put, List.setIfInBounds_toArray, List.set_cons_succ, List.set_cons_zero]
        refine gw_val (by kernel_rfl) (some 39) rfl (.int .i64 s) (by kernel_rfl) ?_
        simp only [Act.put, List.setIfInBounds_toArray, List.set_cons_succ, List.set_cons_zero]
        refine gw_call (by kernel_rfl) (some 40) rfl 20 #[.pointer (some ⟨gl, 0, none⟩), .int .i64 s] (.int .i64 nx) (WK R w gl m (some ⟨b, off, none⟩)) (by kernel_rfl) (C20 _ hV6) (fun V7 hV7 => ?_)
        simp only [Act.put, List.setIfInBounds_toArray, List.set_cons_succ, List.set_cons_zero]
        refine gw_val (by kernel_rfl) (some 8) rfl (.int .i64 nx) (by kernel_rfl) ?_
        simp only [Act.put, List.setIfInBounds_toArray, List.set_cons_succ, List.set_cons_zero]
        apply wpList_nil
        have HV := Lib.hid hV7
        clear hV6 hV7 C20 CB
        go_wp2_with fail
        go_roundg (gk - 1)
        case measure => have := HG.out; omega
        case rel => exact ⟨i + 1, by congr 1, by rw [HNX.out], HG.out.2.2, HV.out, HG.out.1⟩
      · have hsd : decide (0 ≤ (-1 : Int)) = false := by decide
        rw [h1]
        clear hi hg h1
        go_upto_region 9 with fail
        apply wp_region_lit
        refine gw_val (by kernel_rfl) (some 30) rfl (.int .i64 (-1)) (by kernel_rfl) ?_
        simp only [Act.put, List.setIfInBounds_toArray, List.set_cons_succ, List.set_cons_zero]
        refine gw_val (by kernel_rfl) (some 31) rfl (.bool (decide (0 ≤ (-1 : Int)))) (by kernel_rfl) ?_
        rw [hsd]
        simp only [Act.put, List.setIfInBounds_toArray, List.set_cons_succ, List.set_cons_zero]
        refine gw_val (by kernel_rfl) (some 32) rfl (.bool false) (by kernel_rfl) ?_
        simp only [Act.put, List.setIfInBounds_toArray, List.set_cons_succ, List.set_cons_zero]
        refine gw_not (by kernel_rfl) (some 33) rfl ?_
        simp only [Act.put, List.setIfInBounds_toArray, List.set_cons_succ, List.set_cons_zero]
        refine gw_not (by kernel_rfl) (some 34) rfl ?_
        simp only [Act.put, List.setIfInBounds_toArray, List.set_cons_succ, List.set_cons_zero]
        refine gw_not (by kernel_rfl) (some 35) rfl ?_
        simp only [Act.put, List.setIfInBounds_toArray, List.set_cons_succ, List.set_cons_zero]
        refine gw_not (by kernel_rfl) (some 36) rfl ?_
        simp only [Act.put, List.setIfInBounds_toArray, List.set_cons_succ, List.set_cons_zero]
        refine gw_val (by kernel_rfl) (some 37) rfl (.bool false) (by kernel_rfl) ?_
        simp only [Act.put, List.setIfInBounds_toArray, List.set_cons_succ, List.set_cons_zero]
        apply wpList_nil
        go_upto_region 15 with fail
        apply wp_region_lit
        refine gw_val (by kernel_rfl) (some 65) rfl (.int .i64 m.E.length) (by kernel_rfl) ?_
        simp only [Act.put, List.setIfInBounds_toArray, List.set_cons_succ, List.set_cons_zero]
        refine gw_val (by kernel_rfl) (some 66) rfl (.slice av m.E.length cv) (by kernel_rfl) ?_
        simp only [Act.put, List.setIfInBounds_toArray, List.set_cons_succ, List.set_cons_zero]
        refine gw_val (by kernel_rfl) (some 67) rfl (.int .i64 m.E.length) (by kernel_rfl) ?_
        simp only [Act.put, List.setIfInBounds_toArray, List.set_cons_succ, List.set_cons_zero]
        refine gw_val (by kernel_rfl) (some 68) rfl (.bool (((m.E.length : Int)) != ((m.E.length : Int)))) (by kernel_rfl) ?_
        rw [bne_self_eq_false]
        simp only [Act.put, List.setIfInBounds_toArray, List.set_cons_succ, List.set_cons_zero]
        apply wpList_nil
        go_upto_region 17 with fail
        apply wp_region_lit
        refine gw_val (by kernel_rfl) (some 69) rfl (.pointer (some ⟨gl, 0, none⟩)) (by kernel_rfl) ?_
        simp only [Act.put, List.setIfInBounds_toArray, List.set_cons_succ, List.set_cons_zero]
        refine gw_call (by kernel_rfl) (some 70) rfl 17 #[.pointer (some ⟨gl, 0, none⟩)] (.int .i64 (slotAt m ((m.E.length : Int) - 1))) (WK R w gl m av) (by kernel_rfl) (C17 _ hk) (fun V8 hV8 => ?_)
        simp only [Act.put, List.setIfInBounds_toArray, List.set_cons_succ, List.set_cons_zero]
        clear C17 hk
        refine gw_val (by kernel_rfl) (some 11) rfl (.int .i64 (slotAt m ((m.E.length : Int) - 1))) (by kernel_rfl) ?_
        simp only [Act.put, List.setIfInBounds_toArray, List.set_cons_succ, List.set_cons_zero]
        apply wpList_nil
        go_wp2_with fail
        go_loopg [7, 11] (m.E.length) (fun gg s7 s11 wx => ∃ j : Nat, s7 = .int .i64 j ∧ s11 = .int .i64 (slotAt m ((j : Int) - 1)) ∧ j ≤ m.E.length ∧ WK R w gl m av wx ∧ j = gg)
        case atStart => exact ⟨m.E.length, rfl, rfl, by omega, hV8, rfl⟩
        case round =>
          obtain ⟨j, rfl, rfl, hj, hk, rfl⟩ := hrel
          clear hV8
          rcases (show j = 0 ∨ ∃ i, j = i + 1 from by cases j with | zero => exact .inl rfl | succ i => exact .inr ⟨i, rfl⟩) with rfl | ⟨i, rfl⟩
          case inr =>
            have hlt : i < m.E.length := by omega
            have e1 : ((i + 1 : Nat) : Int) - 1 = (i : Int) := by omega
            have hsl := slotAt_in m hlt
            have hvv := valuesM_at m hlt
            have hx := hw2.value hlt
            have hn := hw2.next hlt (-1)
            have hu := hok.2.2
            have hr := hw2.slot_range hlt
            obtain ⟨b, off, rfl, hbb, hcx⟩ := int_at hk.2 (k := i) (by rw [hvl]; exact hlt)
            rw [hvv] at hcx
            rw [e1, hsl]
            generalize (m.E.getD i (0, 0)).1 = s at *
            generalize (m.E.getD i (0, 0)).2 = vv at *
            have hs64 : I64 s := ⟨by omega, by omega⟩
            have hsd : decide (0 ≤ s) = true := decide_eq_true hr.1
            have hid : decide (0 ≤ ((i + 1 : Nat) : Int)) = true := decide_eq_true (by omega)
            have hid2 : decide ((i : Int) < 0) = false := decide_eq_false (by omega)
            have hwi : IntKind.i64.wrap (((i + 1 : Nat) : Int) - 1) = (i : Int) := by rw [IntKind.wrap_i64]; omega
            rw [show (i : Int) + -1 = (i : Int) - 1 by omega] at hn
            have C18 := calls_both hC hk (fun S hr => hC.value wr gl S m s hr hw2 hok hs64)
            have C22 := fun V (h : WK R w gl m (some ⟨b, off, none⟩) V) => calls_both hC h (fun S hr => hC.prev V gl S m s hr hw2 hok hs64)
            rw [hx] at C18
            rw [hn] at C22
            have CB := fun V (h : WK R w gl m (some ⟨b, off, none⟩) V) => (by
              obtain ⟨b2, o2, e2, -, h2⟩ := int_at h.2 (k := i) (by rw [hvl]; exact hlt)
              simp only [Option.some.injEq, Addr.mk.injEq, and_true] at e2
              obtain ⟨rfl, rfl⟩ := e2
              rw [hvv] at h2
              exact h2 : V.cell? ⟨b, off + i, none⟩ = some (.int .i64 vv))
            have HG : Hid (i < i + 1 ∧ i ≤ m.E.length) := Lib.hid ⟨by omega, by omega⟩
            generalize hnx : slotAt m ((i : Int) - 1) = nx at *
            have HNX := Lib.hid hnx
            clear hx hn hu hr hsl hvv hcx CK hnx e1
            go_upto_region 18 with fail
            apply wp_region_lit
            refine gw_val (by kernel_rfl) (some 71) rfl (.int .i64 s) (by kernel_rfl) ?_
            simp only [Act.put, List.setIfInBounds_toArray, List.set_cons_succ, List.set_cons_zero]
            refine gw_val (by kernel_rfl) (some 72) rfl (.bool (decide (0 ≤ s))) (by kernel_rfl) ?_
            rw [hsd]
            simp only [Act.put, List.setIfInBounds_toArray, List.set_cons_succ, List.set_cons_zero]
            refine gw_val (by kernel_rfl) (some 73) rfl (.bool true) (by kernel_rfl) ?_
            simp only [Act.put, List.setIfInBounds_toArray, List.set_cons_succ, List.set_cons_zero]
            refine gw_val (by kernel_rfl) (some 74) rfl (.int .i64 ((i + 1 : Nat) : Int)) (by kernel_rfl) ?_
            simp only [Act.put, List.setIfInBounds_toArray, List.set_cons_succ, List.set_cons_zero]
            refine gw_val (by kernel_rfl) (some 75) rfl (.bool (decide (0 ≤ ((i + 1 : Nat) : Int)))) (by kernel_rfl) ?_
            rw [hid]
            simp only [Act.put, List.setIfInBounds_toArray, List.set_cons_succ, List.set_cons_zero]
            refine gw_val (by kernel_rfl) (some 76) rfl (.bool true) (by kernel_rfl) ?_
            simp only [Act.put, List.setIfInBounds_toArray, List.set_cons_succ, List.set_cons_zero]
            apply wpList_nil
            go_upto_region 20 with fail
            apply wp_region_lit
            refine gw_val (by kernel_rfl) (some 81) rfl (.pointer (some ⟨gl, 0, none⟩)) (by kernel_rfl) ?_
            simp only [Act.put, List.setIfInBounds_toArray, List.set_cons_succ, List.set_cons_zero]
            refine gw_val (by kernel_rfl) (some 82) rfl (.int .i64 s) (by kernel_rfl) ?_
            simp only [Act.put, List.setIfInBounds_toArray, List.set_cons_succ, List.set_cons_zero]
            refine gw_call (by kernel_rfl) (some 83) rfl 18 #[.pointer (some ⟨gl, 0, none⟩), .int .i64 s] (.tuple #[.int .i64 vv, .bool true]) (WK R w gl m (some ⟨b, off, none⟩)) (by kernel_rfl) (C18) (fun V6 hV6 => ?_)
            simp only [Act.put, List.setIfInBounds_toArray, List.set_cons_succ, List.set_cons_zero]
            clear C18 hk
            refine gw_val (by kernel_rfl) (some 80) rfl (.tuple #[.int .i64 vv, .bool true]) (by kernel_rfl) ?_
            simp only [Act.put, List.setIfInBounds_toArray, List.set_cons_succ, List.set_cons_zero]
            refine gw_val (by kernel_rfl) (some 84) rfl (.int .i64 vv) (by kernel_rfl) ?_
            simp only [Act.put, List.setIfInBounds_toArray, List.set_cons_succ, List.set_cons_zero]
            refine gw_val (by kernel_rfl) (some 85) rfl (.bool true) (by kernel_rfl) ?_
            simp only [Act.put, List.setIfInBounds_toArray, List.set_cons_succ, List.set_cons_zero]
            refine gw_val (by kernel_rfl) (some 12) rfl (.int .i64 vv) (by kernel_rfl) ?_
            simp only [Act.put, List.setIfInBounds_toArray, List.set_cons_succ, List.set_cons_zero]
            refine gw_val (by kernel_rfl) (some 13) rfl (.bool true) (by kernel_rfl) ?_
            simp only [Act.put, List.setIfInBounds_toArray, List.set_cons_succ, List.set_cons_zero]
            apply wpList_nil
            go_upto_region 21 with fail
            apply wp_region_lit
            refine gw_val (by kernel_rfl) (some 86) rfl (.int .i64 ((i + 1 : Nat) : Int)) (by kernel_rfl) ?_
            simp only [Act.put, List.setIfInBounds_toArray, List.set_cons_succ, List.set_cons_zero]
            refine gw_val (by kernel_rfl) (some 87) rfl (.int .i64 (IntKind.i64.wrap (((i + 1 : Nat) : Int) - 1))) (by kernel_rfl) ?_
            rw [hwi]
            simp only [Act.put, List.setIfInBounds_toArray, List.set_cons_succ, List.set_cons_zero]
            refine gw_val (by kernel_rfl) (some 7) rfl (.int .i64 (i : Int)) (by kernel_rfl) ?_
            simp only [Act.put, List.setIfInBounds_toArray, List.set_cons_succ, List.set_cons_zero]
            apply wpList_nil
            go_upto_region 22 with fail
            apply wp_region_lit
            refine gw_val (by kernel_rfl) (some 88) rfl (.bool true) (by kernel_rfl) ?_
            simp only [Act.put, List.setIfInBounds_toArray, List.set_cons_succ, List.set_cons_zero]
            refine gw_val (by kernel_rfl) (some 89) rfl (.bool false) (by kernel_rfl) ?_
            simp only [Act.put, List.setIfInBounds_toArray, List.set_cons_succ, List.set_cons_zero]
            refine gw_val (by kernel_rfl) (some 90) rfl (.bool false) (by kernel_rfl) ?_
            simp only [Act.put, List.setIfInBounds_toArray, List.set_cons_succ, List.set_cons_zero]
            refine gw_val (by kernel_rfl) (some 91) rfl (.int .i64 (i : Int)) (by kernel_rfl) ?_
            simp only [Act.put, List.setIfInBounds_toArray, List.set_cons_succ, List.set_cons_zero]
            refine gw_val (by kernel_rfl) (some 92) rfl (.bool (decide ((i : Int) < 0))) (by kernel_rfl) ?_
            rw [hid2]
            simp only [Act.put, List.setIfInBounds_toArray, List.set_cons_succ, List.set_cons_zero]
            refine gw_val (by kernel_rfl) (some 93) rfl (.bool false) (by kernel_rfl) ?_
            simp only [Act.put, List.setIfInBounds_toArray, List.set_cons_succ, List.set_cons_zero]
            refine gw_val (by kernel_rfl) (some 94) rfl (.bool false) (by kernel_rfl) ?_
            simp only [Act.put, List.setIfInBounds_toArray, List.set_cons_succ, List.set_cons_zero]
            refine gw_val (by kernel_rfl) (some 95) rfl (.slice (some ⟨b, off, none⟩) m.E.length cv) (by kernel_rfl) ?_
            simp only [Act.put, List.setIfInBounds_toArray, List.set_cons_succ, List.set_cons_zero]
            refine gw_val (by kernel_rfl) (some 96) rfl (.int .i64 i) (by kernel_rfl) ?_
            simp only [Act.put, List.setIfInBounds_toArray, List.set_cons_succ, List.set_cons_zero]
            refine gw_val (by kernel_rfl) (some 97) rfl (.pointer (some ⟨b, off + i, none⟩)) (idx_int b off m.E.length cv i hlt _ _ _ rfl (by kernel_rfl) (by kernel_rfl)) ?_
            simp only [Act.put, List.setIfInBounds_toArray, List.set_cons_succ, List.set_cons_zero]
            refine gw_load (by kernel_rfl) (some 98) rfl 3 (.tmp 97) rfl ⟨b, off + i, none⟩ (.int .i64 vv) (by kernel_rfl) (load_cell (CB _ hV6) (by kernel_rfl)) ?_
            simp only [Act.put, List.setIfInBounds_toArray, List.set_cons_succ, List.set_cons_zero]
            refine gw_val (by kernel_rfl) (some 99) rfl (.int .i64 vv) (by kernel_rfl) ?_
            simp only [Act.put, List.setIfInBounds_toArray, List.set_cons_succ, List.set_cons_zero]
            refine gw_val (by kernel_rfl) (some 100) rfl (.bool ((vv) != (vv))) (by kernel_rfl) ?_
            rw [bne_self_eq_false]
            simp only [Act.put, List.setIfInBounds_toArray, List.set_cons_succ, List.set_cons_zero]
            refine gw_val (by kernel_rfl) (some 101) rfl (.bool false) (by kernel_rfl) ?_
            simp only [Act.put, List.setIfInBounds_toArray, List.set_cons_succ, List.set_cons_zero]
            apply wpList_nil
            go_upto_region 19 with fail
            apply wp_region_lit
            refine gw_val (by kernel_rfl) (some 77) rfl (.pointer (some ⟨gl, 0, none⟩)) (by kernel_rfl) ?_
            simp only [Act.put, List.setIfInBounds_toArray, List.set_cons_succ, List.set_cons_zero]
            refine gw_val (by kernel_rfl) (some 78) rfl (.int .i64 s) (by kernel_rfl) ?_
            simp only [Act.put, List.setIfInBounds_toArray, List.set_cons_succ, List.set_cons_zero]
            refine gw_call (by kernel_rfl) (some 79) rfl 22 #[.pointer (some ⟨gl, 0, none⟩), .int .i64 s] (.int .i64 nx) (WK R w gl m (some ⟨b, off, none⟩)) (by kernel_rfl) (C22 _ hV6) (fun V7 hV7 => ?_)
            simp only [Act.put, List.setIfInBounds_toArray, List.set_cons_succ, List.set_cons_zero]
            refine gw_val (by kernel_rfl) (some 11) rfl (.int .i64 nx) (by kernel_rfl) ?_
            simp only [Act.put, List.setIfInBounds_toArray, List.set_cons_succ, List.set_cons_zero]
            apply wpList_nil
            have HV := Lib.hid hV7
            clear hV6 hV7 C22 CB
            go_wp2_with fail
            go_roundg i
            case measure => exact HG.out.1
            case rel => exact ⟨i, rfl, by rw [HNX.out], HG.out.2, HV.out, rfl⟩
          case inl =>
            have hsd : decide (0 ≤ (-1 : Int)) = false := by decide
            rw [show slotAt m (((0 : Nat) : Int) - 1) = -1 from slotAt_out m (.inl (by omega))]
            have CKr := CK wr
            obtain ⟨S, -, -, hB⟩ := hk.1
            clear hk CK
            go_upto_region 18 with fail
            apply wp_region_lit
            refine gw_val (by kernel_rfl) (some 71) rfl (.int .i64 (-1)) (by kernel_rfl) ?_
            simp only [Act.put, List.setIfInBounds_toArray, List.set_cons_succ, List.set_cons_zero]
            refine gw_val (by kernel_rfl) (some 72) rfl (.bool (decide (0 ≤ (-1 : Int)))) (by kernel_rfl) ?_
            rw [hsd]
            simp only [Act.put, List.setIfInBounds_toArray, List.set_cons_succ, List.set_cons_zero]
            refine gw_val (by kernel_rfl) (some 73) rfl (.bool false) (by kernel_rfl) ?_
            simp only [Act.put, List.setIfInBounds_toArray, List.set_cons_succ, List.set_cons_zero]
            refine gw_not (by kernel_rfl) (some 74) rfl ?_
            simp only [Act.put, List.setIfInBounds_toArray, List.set_cons_succ, List.set_cons_zero]
            refine gw_not (by kernel_rfl) (some 75) rfl ?_
            simp only [Act.put, List.setIfInBounds_toArray, List.set_cons_succ, List.set_cons_zero]
            refine gw_val (by kernel_rfl) (some 76) rfl (.bool false) (by kernel_rfl) ?_
            simp only [Act.put, List.setIfInBounds_toArray, List.set_cons_succ, List.set_cons_zero]
            apply wpList_nil
            go_upto_region 24 with fail
            apply wp_region_lit
            refine gw_val (by kernel_rfl) (some 102) rfl (.int .i64 ((0 : Nat) : Int)) (by kernel_rfl) ?_
            simp only [Act.put, List.setIfInBounds_toArray, List.set_cons_succ, List.set_cons_zero]
            refine gw_val (by kernel_rfl) (some 103) rfl (.bool true) (by kernel_rfl) ?_
            simp only [Act.put, List.setIfInBounds_toArray, List.set_cons_succ, List.set_cons_zero]
            refine gw_val (by kernel_rfl) (some 104) rfl (.bool true) (by kernel_rfl) ?_
            simp only [Act.put, List.setIfInBounds_toArray, List.set_cons_succ, List.set_cons_zero]
            refine gw_call (by kernel_rfl) (some 105) rfl 9 #[] (.bool true) (fun w' => Below wr.heap.size wr w') (by kernel_rfl) CKr (fun V9 h9 => ?_)
            simp only [Act.put, List.setIfInBounds_toArray, List.set_cons_succ, List.set_cons_zero]
            refine gw_val (by kernel_rfl) (some 106) rfl (.bool true) (by kernel_rfl) ?_
            simp only [Act.put, List.setIfInBounds_toArray, List.set_cons_succ, List.set_cons_zero]
            refine gw_val (by kernel_rfl) (some 2) rfl (.bool true) (by kernel_rfl) ?_
            simp only [Act.put, List.setIfInBounds_toArray, List.set_cons_succ, List.set_cons_zero]
            apply wpList_nil
            have HB := Lib.hid (hB.trans (h9.mono hB.size))
            clear hB h9 CKr
            go_wp2_with fail
            go_ret
            exact ⟨rfl, HB.out⟩
end Go.Proofs.Ytefinpapkjgpoaa
