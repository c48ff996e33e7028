/-
  The contracts of the program's list: New, Push.., Remove, Move... (Out of stage 7.)
-/
import Derived.Test.YtjblfpifhbmfoaaPT
namespace Go.Proofs.Ytjblfpifhbmfoaa
open Go.RowKit
set_option linter.unusedSimpArgs false
set_option linter.unusedVariables false

set_option linter.unusedSimpArgs false
set_option linter.unusedVariables false
theorem Nx.sub {w : World} {g : Nat} {ea ea2 : Option Addr} (h : Nx w ea ea2) (k : Nat) (hk : Sg g ea2 k) : Sg g ea k ∨ w.heap.size ≤ k := by
  rcases hk with rfl | ⟨x, hx, rfl⟩
  · exact .inl (.inl rfl)
  · rcases h x hx with ⟨y, hy, e⟩ | h
    · exact .inl (.inr ⟨y, hy, e⟩)
    · exact .inr h
theorem Nx.base {w : World} {B g : Nat} {ea ea2 : Option Addr} (h : Nx w ea ea2) (hB : ∀ k, Sg g ea k → B ≤ k) (hBw : B ≤ w.heap.size) (k : Nat) (hk : Sg g ea2 k) : B ≤ k := by
  rcases h.sub k hk with h | h
  · exact hB k h
  · omega
theorem Tk.then {B g : Nat} {ea ea2 : Option Addr} {ec2 : Nat} {q2 : PS} {w w1 w2 : World} (hb : ButS B (Sg g ea) w w1) (hn : Nx w ea ea2) (h2 : Rp w2 g ea2 ec2 q2) (hb2 : ButS B (Sg g ea2) w1 w2) : Tk B g ea q2 w w2 := ⟨ea2, ec2, h2, hb.trans hb2 fun k hk => hn.sub k hk, hn⟩
set_option maxRecDepth 100000 in
set_option maxHeartbeats 2000000 in
theorem p_new (w : World) : Calls Try.prog 25 #[] w fun e w' => e = .returned (.pointer (some ⟨w.heap.size, 0, none⟩)) ∧ w' = w.alloc (.cells #[.slice none 0 0, .int .i64 0, .int .i64 0, .int .i64 0, .int .i64 0] 64) := by
  go_enter Try.func25, Try.ntmps25
  go_upto_region 1 with fail
  apply wp_region_lit
  refine gw_val (by kernel_rfl) (some 1) rfl (.agg #[.slice none 0 0, .int .i64 0, .int .i64 0, .int .i64 0, .int .i64 0]) (by kernel_rfl) ?_
  simp only [Act.put, List.setIfInBounds_toArray, List.set_cons_succ, List.set_cons_zero]
  refine run_to rfl (some 2) rfl (.pointer (some ⟨w.heap.size, 0, none⟩)) (w.alloc (.cells #[.slice none 0 0, .int .i64 0, .int .i64 0, .int .i64 0, .int .i64 0] 64)) (by kernel_rfl) ?_
  simp only [Act.put, List.setIfInBounds_toArray, List.set_cons_succ, List.set_cons_zero]
  refine gw_val (by kernel_rfl) (some 0) rfl (.pointer (some ⟨w.heap.size, 0, none⟩)) (by kernel_rfl) ?_
  simp only [Act.put, List.setIfInBounds_toArray, List.set_cons_succ, List.set_cons_zero]
  apply wpList_nil
  go_wp2_with fail
  go_ret
  exact ⟨rfl, rfl⟩
set_option maxRecDepth 100000 in
set_option maxHeartbeats 2000000 in
theorem p_pushB {w : World} {B g ec : Nat} {ea : Option Addr} {q : PS} (h : Rp w g ea ec q) (hB : ∀ k, Sg g ea k → B ≤ k) (hBw : B ≤ w.heap.size) (v : Int) (hf : q.ln = q.T.length ∨ ∃ k : Nat, q.fr = k ∧ k < q.T.length) (hl : q.T.length + 1 ≤ 100000) (hs : Rg (takeP q v).1 (takeP q v).2) (he : Rg (takeP q v).1 (lastP (takeP q v).1)) (hln : (takeP q v).1.ln + 1 ≤ 100000) : Calls Try.prog 31 #[.pointer (some ⟨g, 0, none⟩), .int .i64 v] w fun e w' => e = .returned (.int .i64 (pushBP q v).2) ∧ Tk B g ea (pushBP q v).1 w w' := by
  have C1 := p_take h hB hBw v hf hl
  unfold pushBP
  simp only
  generalize (takeP q v).2 = s at *
  generalize (takeP q v).1 = q1 at *
  have C2 := fun w1 ea2 ec2 (h1 : Rp w1 g ea2 ec2 q1) => p_last h1
  have C3 := fun w1 ea2 ec2 (h1 : Rp w1 g ea2 ec2 q1) (hn : Nx w ea ea2) => p_link h1 (hn.base hB hBw) (lastP q1) s (-1) he hs (.inl rfl) hln
  generalize linkP q1 (lastP q1) s (-1) = q2 at *
  generalize lastP q1 = z at *
  clear h hf hl hs he hln hB hBw
  go_enter Try.func31, Try.ntmps31
  go_upto_region 1 with fail
  apply wp_region_lit
  refine gw_val (by kernel_rfl) (some 6) rfl (.pointer (some ⟨g, 0, none⟩)) (by kernel_rfl) ?_
  simp only [Act.put, List.setIfInBounds_toArray, List.set_cons_succ, List.set_cons_zero]
  refine gw_val (by kernel_rfl) (some 7) rfl (.bool false) (by kernel_rfl) ?_
  simp only [Act.put, List.setIfInBounds_toArray, List.set_cons_succ, List.set_cons_zero]
  apply wpList_nil
  go_upto_region 3 with fail
  apply wp_region_lit
  refine gw_val (by kernel_rfl) (some 8) rfl (.pointer (some ⟨g, 0, none⟩)) (by kernel_rfl) ?_
  simp only [Act.put, List.setIfInBounds_toArray, List.set_cons_succ, List.set_cons_zero]
  refine gw_val (by kernel_rfl) (some 9) rfl (.int .i64 v) (by kernel_rfl) ?_
  simp only [Act.put, List.setIfInBounds_toArray, List.set_cons_succ, List.set_cons_zero]
  refine gw_call (by kernel_rfl) (some 10) rfl 39 #[.pointer (some ⟨g, 0, none⟩), .int .i64 v] (.int .i64 s) (fun w9 => Tk B g ea q1 w w9) (by kernel_rfl) C1 (fun w1 hw1 => ?_)
  simp only [Act.put, List.setIfInBounds_toArray, List.set_cons_succ, List.set_cons_zero]
  refine gw_val (by kernel_rfl) (some 5) rfl (.int .i64 s) (by kernel_rfl) ?_
  simp only [Act.put, List.setIfInBounds_toArray, List.set_cons_succ, List.set_cons_zero]
  apply wpList_nil
  obtain ⟨ea2, ec2, h1, hb1, hn1⟩ := hw1
  go_upto_region 4 with fail
  apply wp_region_lit
  refine gw_val (by kernel_rfl) (some 11) rfl (.pointer (some ⟨g, 0, none⟩)) (by kernel_rfl) ?_
  simp only [Act.put, List.setIfInBounds_toArray, List.set_cons_succ, List.set_cons_zero]
  refine gw_val (by kernel_rfl) (some 12) rfl (.pointer (some ⟨g, 0, none⟩)) (by kernel_rfl) ?_
  simp only [Act.put, List.setIfInBounds_toArray, List.set_cons_succ, List.set_cons_zero]
  refine gw_call (by kernel_rfl) (some 13) rfl 37 #[.pointer (some ⟨g, 0, none⟩)] (.int .i64 z) (fun w9 => w9 = w1) (by kernel_rfl) (C2 w1 ea2 ec2 h1) (fun w9 hw9 => ?_)
  subst hw9
  simp only [Act.put, List.setIfInBounds_toArray, List.set_cons_succ, List.set_cons_zero]
  refine gw_val (by kernel_rfl) (some 14) rfl (.int .i64 s) (by kernel_rfl) ?_
  simp only [Act.put, List.setIfInBounds_toArray, List.set_cons_succ, List.set_cons_zero]
  refine gw_call (by kernel_rfl) (some 15) rfl 36 #[.pointer (some ⟨g, 0, none⟩), .int .i64 z, .int .i64 s, .int .i64 (-1)] (.tuple #[]) (fun w' => Rp w' g ea2 ec2 q2 ∧ ButS B (Sg g ea2) w9 w') (by kernel_rfl) (C3 w9 ea2 ec2 h1 hn1) (fun w2 hw2 => ?_)
  simp only [Act.put, List.setIfInBounds_toArray, List.set_cons_succ, List.set_cons_zero]
  apply wpList_nil
  have HF := Lib.hid (Tk.then hb1 hn1 hw2.1 hw2.2)
  clear C1 C2 C3 h1 hb1 hn1 hw2
  go_upto_region 5 with fail
  apply wp_region_lit
  refine gw_val (by kernel_rfl) (some 16) rfl (.int .i64 s) (by kernel_rfl) ?_
  simp only [Act.put, List.setIfInBounds_toArray, List.set_cons_succ, List.set_cons_zero]
  refine gw_val (by kernel_rfl) (some 4) rfl (.int .i64 s) (by kernel_rfl) ?_
  simp only [Act.put, List.setIfInBounds_toArray, List.set_cons_succ, List.set_cons_zero]
  apply wpList_nil
  go_wp2_with fail
  go_ret
  exact ⟨rfl, HF.out⟩
set_option maxRecDepth 100000 in
set_option maxHeartbeats 2000000 in
theorem n_pushB (w : World) (v : Int) : Calls Try.prog 31 #[.pointer none, .int .i64 v] w fun e w' => e = .returned (.int .i64 (-1)) ∧ w' = w := by
  go_enter Try.func31, Try.ntmps31
  go_upto_region 1 with fail
  apply wp_region_lit
  refine gw_val (by kernel_rfl) (some 6) rfl (.pointer none) (by kernel_rfl) ?_
  simp only [Act.put, List.setIfInBounds_toArray, List.set_cons_succ, List.set_cons_zero]
  refine gw_val (by kernel_rfl) (some 7) rfl (.bool true) (by kernel_rfl) ?_
  simp only [Act.put, List.setIfInBounds_toArray, List.set_cons_succ, List.set_cons_zero]
  apply wpList_nil
  go_wp2_with fail
  go_ret
  exact ⟨rfl, rfl⟩
set_option maxRecDepth 100000 in
set_option maxHeartbeats 2000000 in
theorem p_remove0 {w : World} {g ec : Nat} {ea : Option Addr} {q : PS} (h : Rp w g ea ec q) (s : Int) (hh : hasP q s = false) : Calls Try.prog 28 #[.pointer (some ⟨g, 0, none⟩), .int .i64 s] w fun e w' => e = .returned (.bool false) ∧ w' = w := by
  have CH := p_has h s
  rw [hh] at CH
  clear hh h
  go_enter Try.func28, Try.ntmps28
  go_upto_region 1 with fail
  apply wp_region_lit
  refine gw_val (by kernel_rfl) (some 5) rfl (.pointer (some ⟨g, 0, none⟩)) (by kernel_rfl) ?_
  simp only [Act.put, List.setIfInBounds_toArray, List.set_cons_succ, List.set_cons_zero]
  refine gw_val (by kernel_rfl) (some 6) rfl (.int .i64 s) (by kernel_rfl) ?_
  simp only [Act.put, List.setIfInBounds_toArray, List.set_cons_succ, List.set_cons_zero]
  refine gw_call (by kernel_rfl) (some 7) rfl 34 #[.pointer (some ⟨g, 0, none⟩), .int .i64 s] (.bool false) (fun w9 => w9 = w) (by kernel_rfl) CH (fun w9 hw9 => ?_)
  subst hw9
  simp only [Act.put, List.setIfInBounds_toArray, List.set_cons_succ, List.set_cons_zero]
  refine gw_val (by kernel_rfl) (some 8) rfl (.bool true) (by kernel_rfl) ?_
  simp only [Act.put, List.setIfInBounds_toArray, List.set_cons_succ, List.set_cons_zero]
  apply wpList_nil
  go_wp2_with fail
  go_ret
  exact ⟨rfl, rfl⟩
set_option maxRecDepth 100000 in
set_option maxHeartbeats 2000000 in
theorem n_remove (w : World) (s : Int) : Calls Try.prog 28 #[.pointer none, .int .i64 s] w fun e w' => e = .returned (.bool false) ∧ w' = w := by
  have CH := n_has w s
  go_enter Try.func28, Try.ntmps28
  go_upto_region 1 with fail
  apply wp_region_lit
  refine gw_val (by kernel_rfl) (some 5) rfl (.pointer none) (by kernel_rfl) ?_
  simp only [Act.put, List.setIfInBounds_toArray, List.set_cons_succ, List.set_cons_zero]
  refine gw_val (by kernel_rfl) (some 6) rfl (.int .i64 s) (by kernel_rfl) ?_
  simp only [Act.put, List.setIfInBounds_toArray, List.set_cons_succ, List.set_cons_zero]
  refine gw_call (by kernel_rfl) (some 7) rfl 34 #[.pointer none, .int .i64 s] (.bool false) (fun w9 => w9 = w) (by kernel_rfl) CH (fun w9 hw9 => ?_)
  subst hw9
  simp only [Act.put, List.setIfInBounds_toArray, List.set_cons_succ, List.set_cons_zero]
  refine gw_val (by kernel_rfl) (some 8) rfl (.bool true) (by kernel_rfl) ?_
  simp only [Act.put, List.setIfInBounds_toArray, List.set_cons_succ, List.set_cons_zero]
  apply wpList_nil
  go_wp2_with fail
  go_ret
  exact ⟨rfl, rfl⟩
set_option maxRecDepth 100000 in
set_option maxHeartbeats 2000000 in
theorem p_move0 {w : World} {g ec : Nat} {ea : Option Addr} {q : PS} (h : Rp w g ea ec q) (s : Int) (hh : hasP q s = false) : Calls Try.prog 29 #[.pointer (some ⟨g, 0, none⟩), .int .i64 s] w fun e w' => e = .returned (.bool false) ∧ w' = w := by
  have CH := p_has h s
  rw [hh] at CH
  clear hh h
  go_enter Try.func29, Try.ntmps29
  go_upto_region 1 with fail
  apply wp_region_lit
  refine gw_val (by kernel_rfl) (some 5) rfl (.pointer (some ⟨g, 0, none⟩)) (by kernel_rfl) ?_
  simp only [Act.put, List.setIfInBounds_toArray, List.set_cons_succ, List.set_cons_zero]
  refine gw_val (by kernel_rfl) (some 6) rfl (.int .i64 s) (by kernel_rfl) ?_
  simp only [Act.put, List.setIfInBounds_toArray, List.set_cons_succ, List.set_cons_zero]
  refine gw_call (by kernel_rfl) (some 7) rfl 34 #[.pointer (some ⟨g, 0, none⟩), .int .i64 s] (.bool false) (fun w9 => w9 = w) (by kernel_rfl) CH (fun w9 hw9 => ?_)
  subst hw9
  simp only [Act.put, List.setIfInBounds_toArray, List.set_cons_succ, List.set_cons_zero]
  refine gw_val (by kernel_rfl) (some 8) rfl (.bool true) (by kernel_rfl) ?_
  simp only [Act.put, List.setIfInBounds_toArray, List.set_cons_succ, List.set_cons_zero]
  apply wpList_nil
  go_wp2_with fail
  go_ret
  exact ⟨rfl, rfl⟩
set_option maxRecDepth 100000 in
set_option maxHeartbeats 2000000 in
theorem n_move (w : World) (s : Int) : Calls Try.prog 29 #[.pointer none, .int .i64 s] w fun e w' => e = .returned (.bool false) ∧ w' = w := by
  have CH := n_has w s
  go_enter Try.func29, Try.ntmps29
  go_upto_region 1 with fail
  apply wp_region_lit
  refine gw_val (by kernel_rfl) (some 5) rfl (.pointer none) (by kernel_rfl) ?_
  simp only [Act.put, List.setIfInBounds_toArray, List.set_cons_succ, List.set_cons_zero]
  refine gw_val (by kernel_rfl) (some 6) rfl (.int .i64 s) (by kernel_rfl) ?_
  simp only [Act.put, List.setIfInBounds_toArray, List.set_cons_succ, List.set_cons_zero]
  refine gw_call (by kernel_rfl) (some 7) rfl 34 #[.pointer none, .int .i64 s] (.bool false) (fun w9 => w9 = w) (by kernel_rfl) CH (fun w9 hw9 => ?_)
  subst hw9
  simp only [Act.put, List.setIfInBounds_toArray, List.set_cons_succ, List.set_cons_zero]
  refine gw_val (by kernel_rfl) (some 8) rfl (.bool true) (by kernel_rfl) ?_
  simp only [Act.put, List.setIfInBounds_toArray, List.set_cons_succ, List.set_cons_zero]
  apply wpList_nil
  go_wp2_with fail
  go_ret
  exact ⟨rfl, rfl⟩
set_option maxRecDepth 100000 in
set_option maxHeartbeats 2000000 in
theorem p_remove1 {w : World} {B g ec b : Nat} {q : PS} (h : Rp w g (some ⟨b, 0, none⟩) ec q) (hB : ∀ k, Sg g (some ⟨b, 0, none⟩) k → B ≤ k) (k : Nat) (hh : hasP q k = true) (hp : Rg q (prevP q k)) (hn : Rg q (nextP q k)) (hl : 1 ≤ q.ln) (hk : k < (unlinkP q k).T.length) : Calls Try.prog 28 #[.pointer (some ⟨g, 0, none⟩), .int .i64 k] w fun e w' => e = .returned (.bool true) ∧ Rp w' g (some ⟨b, 0, none⟩) ec (freeP (unlinkP q k) k) ∧ ButS B (Sg g (some ⟨b, 0, none⟩)) w w' := by
  have CH := p_has h k
  rw [hh] at CH
  have C1 := p_unlink h hB k hp hn hl
  unfold freeP
  generalize unlinkP q k = q1 at *
  clear hh hp hn hl h
  go_enter Try.func28, Try.ntmps28
  go_upto_region 1 with fail
  apply wp_region_lit
  refine gw_val (by kernel_rfl) (some 5) rfl (.pointer (some ⟨g, 0, none⟩)) (by kernel_rfl) ?_
  simp only [Act.put, List.setIfInBounds_toArray, List.set_cons_succ, List.set_cons_zero]
  refine gw_val (by kernel_rfl) (some 6) rfl (.int .i64 k) (by kernel_rfl) ?_
  simp only [Act.put, List.setIfInBounds_toArray, List.set_cons_succ, List.set_cons_zero]
  refine gw_call (by kernel_rfl) (some 7) rfl 34 #[.pointer (some ⟨g, 0, none⟩), .int .i64 k] (.bool true) (fun w9 => w9 = w) (by kernel_rfl) CH (fun w9 hw9 => ?_)
  subst hw9
  simp only [Act.put, List.setIfInBounds_toArray, List.set_cons_succ, List.set_cons_zero]
  refine gw_val (by kernel_rfl) (some 8) rfl (.bool false) (by kernel_rfl) ?_
  simp only [Act.put, List.setIfInBounds_toArray, List.set_cons_succ, List.set_cons_zero]
  apply wpList_nil
  go_upto_region 3 with fail
  apply wp_region_lit
  refine gw_val (by kernel_rfl) (some 9) rfl (.pointer (some ⟨g, 0, none⟩)) (by kernel_rfl) ?_
  simp only [Act.put, List.setIfInBounds_toArray, List.set_cons_succ, List.set_cons_zero]
  refine gw_val (by kernel_rfl) (some 10) rfl (.int .i64 k) (by kernel_rfl) ?_
  simp only [Act.put, List.setIfInBounds_toArray, List.set_cons_succ, List.set_cons_zero]
  refine gw_call (by kernel_rfl) (some 11) rfl 35 #[.pointer (some ⟨g, 0, none⟩), .int .i64 k] (.tuple #[]) (fun w' => Rp w' g (some ⟨b, 0, none⟩) ec q1 ∧ ButS B (Sg g (some ⟨b, 0, none⟩)) w9 w') (by kernel_rfl) C1 (fun w1 hw1 => ?_)
  simp only [Act.put, List.setIfInBounds_toArray, List.set_cons_succ, List.set_cons_zero]
  apply wpList_nil
  obtain ⟨h1, hb1⟩ := hw1
  have h1d := h1.drew
  have hl0 := h1d.bx.load (i := 0) (ty := 62) (v := .slice (some ⟨b, 0, none⟩) q1.T.length ec) rfl (by kernel_rfl)
  have hl3 := h1d.bx.load (i := 3) (ty := 3) (v := .int .i64 q1.fr) rfl (by kernel_rfl)
  have hS := h1d.storeEl k hk ⟨0, 0, q1.fr, false⟩
  have h2 := h1d.putEl k hk ⟨0, 0, q1.fr, false⟩
  have hb2 := hb1.trans' (ButS.drew (ButS.setEl (B := B) (S := Sg g (some ⟨b, 0, none⟩)) { w1 with drawn := w1.drawn + 1 } b (k * 4) ⟨0, 0, q1.fr, false⟩ (hB b (.inr ⟨_, rfl, rfl⟩)) (.inr ⟨_, rfl, rfl⟩)))
  generalize World.setCells { w1 with drawn := w1.drawn + 1 } b (k * 4) (elc ⟨0, 0, q1.fr, false⟩) = w2 at *
  generalize hw3 : ({ w1 with drawn := w1.drawn + 1 } : World) = w3 at *
  have hS3 := run_store_cell (ty := 3) (i := 3) (v := .int .i64 k) h2.bx (by simp [hd5]) rfl (by kernel_rfl)
  have h3 : Rp (w2.setCell ⟨g, 3, none⟩ (.int .i64 k)) g (some ⟨b, 0, none⟩) ec { q1 with T := putE q1.T k ⟨0, 0, q1.fr, false⟩, fr := k } := h2.field 3 (.int .i64 k) rfl rfl h2.ln
  have hb3 := hb2.trans' (ButS.setCell w2 g 3 (.int .i64 k) (hB g (.inl rfl)) (.inl rfl))
  have HF := Lib.hid (And.intro h3 hb3)
  have HD := Lib.hid hw3
  clear h1 h2 h3 hb1 hb2 hb3 h1d C1 CH hw3
  have h0 : (false = true → false = true ∧ false = true) ∧ w3 = cond false w2 w3 := ⟨fun h => (by cases h), rfl⟩
  go_upto_region 4 with fail
  refine wp_region_inv (fun listed act9 V => ∃ b0 b1 b2 b3 b4 b5 b6 b7 b8 b9 b10 b11 : Bool, listed = #[b0, b1, b2, b3, b4, b5, b6, b7, b8, b9, b10, b11] ∧ act9 = { tmps := #[.pointer (some ⟨g, 0, none⟩), .int .i64 k, undef, undef, .bool false, .pointer (some ⟨g, 0, none⟩), .int .i64 k, .bool true, .bool false, .pointer (some ⟨g, 0, none⟩), .int .i64 k, .tuple #[], (cond b0 (.pointer (some ⟨g, 0, none⟩)) undef), (cond b1 (.pointer (some ⟨g, 0, none⟩)) undef), (cond b2 (.pointer (some ⟨g, 0, none⟩)) undef), (cond b3 (.slice (some ⟨b, 0, none⟩) q1.T.length ec) undef), (cond b4 (.int .i64 k) undef), (cond b5 (.pointer (some ⟨g, 0, none⟩)) undef), (cond b6 (.pointer (some ⟨g, 0, none⟩)) undef), (cond b7 (.pointer (some ⟨g, 3, none⟩)) undef), (cond b8 (.int .i64 q1.fr) undef), (cond b9 (.agg (elc ⟨0, 0, q1.fr, false⟩).toArray) undef), (cond b10 (.pointer (some ⟨b, k * 4, none⟩)) undef), undef, undef, undef, undef], defers := [] } ∧ (b11 = true → b9 = true ∧ b10 = true) ∧ (b9 = true → b8 = true) ∧ (b10 = true → b3 = true) ∧ V = cond b11 w2 w3) (by kernel_rfl) (by kernel_rfl) ?_ ?_ ?_
  · exact ⟨false, false, false, false, false, false, false, false, false, false, false, false, rfl, rfl, fun h => (by cases h), fun h => (by cases h), fun h => (by cases h), HD.out⟩
  · intro i9 listed act9 V hi hr hJ
    obtain ⟨b0, b1, b2, b3, b4, b5, b6, b7, b8, b9, b10, b11, rfl, rfl, hF1, hF2, hF3, hV⟩ := hJ
    have hi2 : i9 < 12 := hi
    have hi3 : i9 = 0 ∨ i9 = 1 ∨ i9 = 2 ∨ i9 = 3 ∨ i9 = 4 ∨ i9 = 5 ∨ i9 = 6 ∨ i9 = 7 ∨ i9 = 8 ∨ i9 = 9 ∨ i9 = 10 ∨ i9 = 11 := by omega
    rcases hi3 with rfl | rfl | rfl | rfl | rfl | rfl | rfl | rfl | rfl | rfl | rfl | rfl
    · obtain rfl : b0 = false := ready_self hr
      refine st_val rfl (by kernel_rfl) (some 12) rfl (.pointer (some ⟨g, 0, none⟩)) V (by kernel_rfl) ?_
      exact ⟨true, b1, b2, b3, b4, b5, b6, b7, b8, b9, b10, b11, rfl, rfl, hF1, hF2, hF3, hV⟩
    · obtain rfl : b1 = false := ready_self hr
      obtain rfl : b0 = true := ready_dep hr 0 (by kernel_rfl)
      refine st_val rfl (by kernel_rfl) (some 13) rfl (.pointer (some ⟨g, 0, none⟩)) V (by kernel_rfl) ?_
      exact ⟨true, true, b2, b3, b4, b5, b6, b7, b8, b9, b10, b11, rfl, rfl, hF1, hF2, hF3, hV⟩
    · obtain rfl : b2 = false := ready_self hr
      obtain rfl : b1 = true := ready_dep hr 1 (by kernel_rfl)
      refine st_val rfl (by kernel_rfl) (some 14) rfl (.pointer (some ⟨g, 0, none⟩)) V (by kernel_rfl) ?_
      exact ⟨b0, true, true, b3, b4, b5, b6, b7, b8, b9, b10, b11, rfl, rfl, hF1, hF2, hF3, hV⟩
    · obtain rfl : b3 = false := ready_self hr
      obtain rfl : b2 = true := ready_dep hr 2 (by kernel_rfl)
      obtain rfl : b10 = false := by cases b10; rfl; exact absurd (hF3 rfl) (by decide)
      obtain rfl : b11 = false := by cases b11; rfl; exact absurd (hF1 rfl).2 (by decide)
      have hV : V = w3 := hV
      rw [hV]
      refine st_load rfl (by kernel_rfl) (some 15) rfl 62 (.tmp 14) rfl ⟨g, 0, none⟩ (.slice (some ⟨b, 0, none⟩) q1.T.length ec) (by kernel_rfl) hl0 ?_
      exact ⟨b0, b1, true, true, b4, b5, b6, b7, b8, b9, false, false, rfl, rfl, fun h => (by cases h), hF2, fun h => (by cases h), rfl⟩
    · obtain rfl : b4 = false := ready_self hr
      refine st_val rfl (by kernel_rfl) (some 16) rfl (.int .i64 k) V (by kernel_rfl) ?_
      exact ⟨b0, b1, b2, b3, true, b5, b6, b7, b8, b9, b10, b11, rfl, rfl, hF1, hF2, hF3, hV⟩
    · obtain rfl : b5 = false := ready_self hr
      refine st_val rfl (by kernel_rfl) (some 17) rfl (.pointer (some ⟨g, 0, none⟩)) V (by kernel_rfl) ?_
      exact ⟨b0, b1, b2, b3, b4, true, b6, b7, b8, b9, b10, b11, rfl, rfl, hF1, hF2, hF3, hV⟩
    · obtain rfl : b6 = false := ready_self hr
      obtain rfl : b5 = true := ready_dep hr 5 (by kernel_rfl)
      refine st_val rfl (by kernel_rfl) (some 18) rfl (.pointer (some ⟨g, 0, none⟩)) V (by kernel_rfl) ?_
      exact ⟨b0, b1, b2, b3, b4, true, true, b7, b8, b9, b10, b11, rfl, rfl, hF1, hF2, hF3, hV⟩
    · obtain rfl : b7 = false := ready_self hr
      obtain rfl : b6 = true := ready_dep hr 6 (by kernel_rfl)
      refine st_val rfl (by kernel_rfl) (some 19) rfl (.pointer (some ⟨g, 3, none⟩)) V (by kernel_rfl) ?_
      exact ⟨b0, b1, b2, b3, b4, b5, true, true, b8, b9, b10, b11, rfl, rfl, hF1, hF2, hF3, hV⟩
    · obtain rfl : b8 = false := ready_self hr
      obtain rfl : b7 = true := ready_dep hr 7 (by kernel_rfl)
      obtain rfl : b9 = false := by cases b9; rfl; exact absurd (hF2 rfl) (by decide)
      obtain rfl : b11 = false := by cases b11; rfl; exact absurd (hF1 rfl).1 (by decide)
      have hV : V = w3 := hV
      rw [hV]
      refine st_load rfl (by kernel_rfl) (some 20) rfl 3 (.tmp 19) rfl ⟨g, 3, none⟩ (.int .i64 q1.fr) (by kernel_rfl) hl3 ?_
      exact ⟨b0, b1, b2, b3, b4, b5, b6, true, true, false, b10, false, rfl, rfl, fun h => (by cases h), fun h => (by cases h), hF3, rfl⟩
    · obtain rfl : b9 = false := ready_self hr
      obtain rfl : b8 = true := ready_dep hr 8 (by kernel_rfl)
      refine st_val rfl (by kernel_rfl) (some 21) rfl (.agg (elc ⟨0, 0, q1.fr, false⟩).toArray) V (by kernel_rfl) ?_
      exact ⟨b0, b1, b2, b3, b4, b5, b6, b7, true, true, b10, b11, rfl, rfl, fun h => ⟨rfl, (hF1 h).2⟩, fun _ => rfl, hF3, hV⟩
    · obtain rfl : b10 = false := ready_self hr
      obtain rfl : b3 = true := ready_dep hr 3 (by kernel_rfl)
      obtain rfl : b4 = true := ready_dep hr 4 (by kernel_rfl)
      refine st_val rfl (by kernel_rfl) (some 22) rfl (.pointer (some ⟨b, k * 4, none⟩)) V (idx_P b q1.T.length ec k hk _ _ _ rfl (by kernel_rfl) (by kernel_rfl)) ?_
      exact ⟨b0, b1, b2, true, true, b5, b6, b7, b8, b9, true, b11, rfl, rfl, fun h => ⟨(hF1 h).1, rfl⟩, hF2, fun _ => rfl, hV⟩
    · obtain rfl : b11 = false := ready_self hr
      obtain rfl : b9 = true := ready_dep hr 9 (by kernel_rfl)
      obtain rfl : b10 = true := ready_dep hr 10 (by kernel_rfl)
      obtain rfl : b8 = true := hF2 rfl
      obtain rfl : b3 = true := hF3 rfl
      have hV : V = w3 := hV
      rw [hV]
      refine st_storeA rfl (by kernel_rfl) rfl 66 (.tmp 22) (.tmp 21) rfl (.pointer (some ⟨b, k * 4, none⟩)) (.agg (elc ⟨0, 0, q1.fr, false⟩).toArray) (by kernel_rfl) (by kernel_rfl) w2 hS ?_
      exact ⟨b0, b1, b2, true, b4, b5, b6, b7, true, true, true, true, rfl, rfl, fun _ => ⟨rfl, rfl⟩, fun _ => rfl, fun _ => rfl, rfl⟩
  · intro act9 V hJ
    obtain ⟨b0, b1, b2, b3, b4, b5, b6, b7, b8, b9, b10, b11, he, rfl, hF1, hF2, hF3, hV⟩ := hJ
    have he : (#[true, true, true, true, true, true, true, true, true, true, true, true] : Array Bool) = #[b0, b1, b2, b3, b4, b5, b6, b7, b8, b9, b10, b11] := he
    simp only [Array.mk.injEq, List.cons.injEq, and_true] at he
    obtain ⟨rfl, rfl, rfl, rfl, rfl, rfl, rfl, rfl, rfl, rfl, rfl, rfl⟩ := he
    simp only [cond_true] at hV ⊢
    subst hV
    clear hF1 hF2 hF3 hS
    go_upto_region 5 with fail
    apply wp_region_lit
    refine gw_val (by kernel_rfl) (some 23) rfl (.pointer (some ⟨g, 0, none⟩)) (by kernel_rfl) ?_
    simp only [Act.put, List.setIfInBounds_toArray, List.set_cons_succ, List.set_cons_zero]
    refine gw_val (by kernel_rfl) (some 24) rfl (.int .i64 k) (by kernel_rfl) ?_
    simp only [Act.put, List.setIfInBounds_toArray, List.set_cons_succ, List.set_cons_zero]
    refine gw_val (by kernel_rfl) (some 25) rfl (.pointer (some ⟨g, 0, none⟩)) (by kernel_rfl) ?_
    simp only [Act.put, List.setIfInBounds_toArray, List.set_cons_succ, List.set_cons_zero]
    refine gw_val (by kernel_rfl) (some 26) rfl (.pointer (some ⟨g, 3, none⟩)) (by kernel_rfl) ?_
    simp only [Act.put, List.setIfInBounds_toArray, List.set_cons_succ, List.set_cons_zero]
    refine gw_store (by kernel_rfl) rfl 3 (.tmp 26) (.tmp 24) rfl (.pointer (some ⟨g, 3, none⟩)) (.int .i64 k) (by kernel_rfl) (by kernel_rfl) (_) (hS3) ?_
    apply wpList_nil
    go_wp2_with fail
    go_ret
    exact ⟨rfl, HF.out⟩
set_option maxRecDepth 100000 in
set_option maxHeartbeats 2000000 in
theorem p_move1 {w : World} {B g ec b : Nat} {q : PS} (h : Rp w g (some ⟨b, 0, none⟩) ec q) (hB : ∀ k, Sg g (some ⟨b, 0, none⟩) k → B ≤ k) (k : Nat) (hh : hasP q k = true) (hp : Rg q (prevP q k)) (hn : Rg q (nextP q k)) (hl : 1 ≤ q.ln) (hk : Rg (unlinkP q k) k) (he : Rg (unlinkP q k) (lastP (unlinkP q k))) (hln : (unlinkP q k).ln + 1 ≤ 100000) : Calls Try.prog 29 #[.pointer (some ⟨g, 0, none⟩), .int .i64 k] w fun e w' => e = .returned (.bool true) ∧ Rp w' g (some ⟨b, 0, none⟩) ec (linkP (unlinkP q k) (lastP (unlinkP q k)) k (-1)) ∧ ButS B (Sg g (some ⟨b, 0, none⟩)) w w' := by
  have CH := p_has h k
  rw [hh] at CH
  have C1 := p_unlink h hB k hp hn hl
  generalize unlinkP q k = q1 at *
  have C2 := fun w1 (h1 : Rp w1 g (some ⟨b, 0, none⟩) ec q1) => p_last h1
  have C3 := fun w1 (h1 : Rp w1 g (some ⟨b, 0, none⟩) ec q1) => p_link h1 hB (lastP q1) k (-1) he hk (.inl rfl) hln
  generalize linkP q1 (lastP q1) k (-1) = q2 at *
  generalize lastP q1 = z at *
  clear hh hp hn hl h hk he hln
  go_enter Try.func29, Try.ntmps29
  go_upto_region 1 with fail
  apply wp_region_lit
  refine gw_val (by kernel_rfl) (some 5) rfl (.pointer (some ⟨g, 0, none⟩)) (by kernel_rfl) ?_
  simp only [Act.put, List.setIfInBounds_toArray, List.set_cons_succ, List.set_cons_zero]
  refine gw_val (by kernel_rfl) (some 6) rfl (.int .i64 k) (by kernel_rfl) ?_
  simp only [Act.put, List.setIfInBounds_toArray, List.set_cons_succ, List.set_cons_zero]
  refine gw_call (by kernel_rfl) (some 7) rfl 34 #[.pointer (some ⟨g, 0, none⟩), .int .i64 k] (.bool true) (fun w9 => w9 = w) (by kernel_rfl) CH (fun w9 hw9 => ?_)
  subst hw9
  simp only [Act.put, List.setIfInBounds_toArray, List.set_cons_succ, List.set_cons_zero]
  refine gw_val (by kernel_rfl) (some 8) rfl (.bool false) (by kernel_rfl) ?_
  simp only [Act.put, List.setIfInBounds_toArray, List.set_cons_succ, List.set_cons_zero]
  apply wpList_nil
  go_upto_region 3 with fail
  apply wp_region_lit
  refine gw_val (by kernel_rfl) (some 9) rfl (.pointer (some ⟨g, 0, none⟩)) (by kernel_rfl) ?_
  simp only [Act.put, List.setIfInBounds_toArray, List.set_cons_succ, List.set_cons_zero]
  refine gw_val (by kernel_rfl) (some 10) rfl (.int .i64 k) (by kernel_rfl) ?_
  simp only [Act.put, List.setIfInBounds_toArray, List.set_cons_succ, List.set_cons_zero]
  refine gw_call (by kernel_rfl) (some 11) rfl 35 #[.pointer (some ⟨g, 0, none⟩), .int .i64 k] (.tuple #[]) (fun w' => Rp w' g (some ⟨b, 0, none⟩) ec q1 ∧ ButS B (Sg g (some ⟨b, 0, none⟩)) w9 w') (by kernel_rfl) C1 (fun w1 hw1 => ?_)
  simp only [Act.put, List.setIfInBounds_toArray, List.set_cons_succ, List.set_cons_zero]
  apply wpList_nil
  obtain ⟨h1, hb1⟩ := hw1
  go_upto_region 4 with fail
  apply wp_region_lit
  refine gw_val (by kernel_rfl) (some 12) rfl (.pointer (some ⟨g, 0, none⟩)) (by kernel_rfl) ?_
  simp only [Act.put, List.setIfInBounds_toArray, List.set_cons_succ, List.set_cons_zero]
  refine gw_val (by kernel_rfl) (some 13) rfl (.pointer (some ⟨g, 0, none⟩)) (by kernel_rfl) ?_
  simp only [Act.put, List.setIfInBounds_toArray, List.set_cons_succ, List.set_cons_zero]
  refine gw_call (by kernel_rfl) (some 14) rfl 37 #[.pointer (some ⟨g, 0, none⟩)] (.int .i64 z) (fun w8 => w8 = w1) (by kernel_rfl) (C2 w1 h1) (fun w8 hw8 => ?_)
  subst hw8
  simp only [Act.put, List.setIfInBounds_toArray, List.set_cons_succ, List.set_cons_zero]
  refine gw_val (by kernel_rfl) (some 15) rfl (.int .i64 k) (by kernel_rfl) ?_
  simp only [Act.put, List.setIfInBounds_toArray, List.set_cons_succ, List.set_cons_zero]
  refine gw_call (by kernel_rfl) (some 16) rfl 36 #[.pointer (some ⟨g, 0, none⟩), .int .i64 z, .int .i64 k, .int .i64 (-1)] (.tuple #[]) (fun w' => Rp w' g (some ⟨b, 0, none⟩) ec q2 ∧ ButS B (Sg g (some ⟨b, 0, none⟩)) w8 w') (by kernel_rfl) (C3 w8 h1) (fun w2 hw2 => ?_)
  simp only [Act.put, List.setIfInBounds_toArray, List.set_cons_succ, List.set_cons_zero]
  apply wpList_nil
  have HF := Lib.hid (And.intro hw2.1 (hb1.trans' hw2.2))
  clear C1 C2 C3 CH h1 hb1 hw2
  go_wp2_with fail
  go_ret
  exact ⟨rfl, HF.out⟩
end Go.Proofs.Ytjblfpifhbmfoaa
