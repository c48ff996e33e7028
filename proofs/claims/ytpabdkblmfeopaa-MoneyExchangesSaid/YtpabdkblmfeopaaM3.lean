/-
  The contracts of Sum of package money and of its reference, and of the fixed example: each Sum returns the exact sum of a list, or 0 and false.
  Conditions: the slice's cells hold numbers of 64 bits.
-/
import Derived.Test.YtpabdkblmfeopaaM2
import Derived.RowKit3
namespace Go.Proofs.Ytpabdkblmfeopaa
open Go.RowKit

/-- The exact sum. -/
def tot (l : List Int) : Int := l.foldl (· + ·) 0
def sumB (l : List Int) : Bool := decide (tot l < 18446744073709551616)
def sumV (l : List Int) : Int := if tot l < 18446744073709551616 then tot l else 0

theorem tot_add (l : List Int) : ∀ a : Int, l.foldl (· + ·) a = a + tot l := by
  induction l with
  | nil => intro a; simp [tot]
  | cons x l ih =>
    intro a
    have h1 := ih (a + x)
    have h2 := ih (0 + x)
    simp only [tot, List.foldl_cons] at *
    omega
theorem tot_cons (x : Int) (l : List Int) : tot (x :: l) = x + tot l := by
  have := tot_add l (0 + x)
  simp only [tot, List.foldl_cons] at *
  omega
theorem tot_append (l r : List Int) : tot (l ++ r) = tot l + tot r := by
  induction l with
  | nil => simp [tot]
  | cons x l ih => rw [List.cons_append, tot_cons, tot_cons, ih]; omega
theorem tot_succ (l : List Int) (k : Nat) (h : k < l.length) : tot (l.take (k + 1)) = tot (l.take k) + l.getD k 0 := by
  rw [List.take_succ_eq_append_getElem h, tot_append, List.getD_eq_getElem?_getD, List.getElem?_eq_getElem h, tot_cons]
  simp [tot]
theorem tot_nonneg (l : List Int) : (∀ x, x ∈ l → 0 ≤ x) → 0 ≤ tot l := by
  induction l with
  | nil => intro _; simp [tot]
  | cons x l ih =>
    intro h
    rw [tot_cons]
    have := ih (fun y hy => h y (List.mem_cons_of_mem _ hy))
    have := h x (List.mem_cons_self ..)
    omega
theorem mem_bound (l : List Int) (hw : ∀ k, k < l.length → W64 (l.getD k 0)) (x : Int) (hx : x ∈ l) : W64 x := by
  obtain ⟨j, hj, rfl⟩ := List.getElem_of_mem hx
  have := hw j hj
  rw [List.getD_eq_getElem?_getD, List.getElem?_eq_getElem hj] at this
  exact this
theorem tot_take_le (l : List Int) (hw : ∀ k, k < l.length → W64 (l.getD k 0)) (k : Nat) : tot (l.take k) ≤ tot l := by
  have h := tot_append (l.take k) (l.drop k)
  rw [List.take_append_drop] at h
  have := tot_nonneg (l.drop k) (fun x hx => (mem_bound l hw x (List.mem_of_mem_drop hx)).1)
  omega

set_option maxHeartbeats 1000000 in
theorem money_sum (a : Option Addr) (cap : Nat) (l : List Int) (w : World) (hl : l.length ≤ 9223372036854775807) (hc : ∀ k, k < l.length → ∃ b off, a = some ⟨b, off, none⟩ ∧ w.cell? ⟨b, off + k, none⟩ = some (.int .u64 (l.getD k 0))) (hw : ∀ k, k < l.length → W64 (l.getD k 0)) :
    Calls Try.prog 18 #[.slice a l.length cap] w fun e w' => e = .returned (.tuple #[.int .u64 (sumV l), .bool (sumB l)]) ∧ w = w' := by
  go_enter Try.func18, Try.ntmps18
  go_wp2_with fail
  go_loopg [4, 11] l.length (fun g s4 s11 wx => w = wx ∧ ∃ k : Nat, k ≤ l.length ∧ s4 = .int .u64 (tot (l.take k)) ∧ s11 = .int .i64 k ∧ l.length - k = g ∧ Hid (tot (l.take k) < 18446744073709551616))
  case atStart => exact ⟨rfl, 0, by omega, rfl, rfl, rfl, Lib.hid (by simp [tot])⟩
  case round =>
    obtain ⟨rfl, k, hk, rfl, rfl, rfl, ht⟩ := hrel
    by_cases hlt : k < l.length
    · obtain ⟨b, off, ea, hcell⟩ := hc k hlt
      have hx := hw k hlt
      have hts := tot_succ l k hlt
      have ht0 := tot_nonneg (l.take k) (fun x hx => (mem_bound l hw x (List.mem_of_mem_take hx)).1)
      have hA := fun w => money_add (tot (l.take k)) (l.getD k 0) w ⟨ht0, by have := ht.out; omega⟩ hx
      have hle := tot_take_le l hw (k + 1)
      obtain ⟨x, hxe⟩ : ∃ x, l.getD k 0 = x := ⟨_, rfl⟩
      obtain ⟨t, hte⟩ : ∃ t, tot (l.take k) = t := ⟨_, rfl⟩
      rw [hxe] at hcell hx hts hA
      rw [hte] at hts hA ht0 ht
      rw [hts] at hle
      rw [hte]
      subst ea
      clear hxe hte hc hw
      by_cases hs : t + x < 18446744073709551616
      · have e1 : addV t x = t + x := if_pos hs
        have e2 : addB t x = true := decide_eq_true hs
        rw [e1, e2] at hA
        have HS := Lib.hid hts
        have hs' := Lib.hid hs
        clear e1 e2 hts hle
        go_wp2_with (go_at_call 9; refine (hA _).mono ?_; rintro e w' ⟨rfl, rfl⟩)
        go_roundg (l.length - (k + 1))
        case measure => omega
        case rel => exact ⟨rfl, k + 1, by omega, by rw [HS.out], by first | rfl | go_num, rfl, by rw [HS.out]; exact hs'⟩
      · have e1 : addV t x = 0 := if_neg hs
        have e2 : addB t x = false := decide_eq_false hs
        rw [e1, e2] at hA
        have f1 := Lib.hid (show sumV l = 0 from if_neg (by omega))
        have f2 := Lib.hid (show sumB l = false from decide_eq_false (by omega))
        clear e1 e2 hts hle
        go_wp2_with (go_at_call 9; refine (hA _).mono ?_; rintro e w' ⟨rfl, rfl⟩)
        go_ret2
        exact ⟨by rw [f1.out, f2.out]; rfl, rfl⟩
    · obtain rfl : k = l.length := by omega
      rw [List.take_length] at ht ⊢
      have f1 := Lib.hid (show sumV l = tot l from if_pos ht.out)
      have f2 := Lib.hid (show sumB l = true from decide_eq_true ht.out)
      clear hc hw
      go_wp2_with fail
      go_ret2
      exact ⟨by rw [f1.out, f2.out]; rfl, rfl⟩

set_option maxHeartbeats 1000000 in
theorem ref_sum (a : Option Addr) (cap : Nat) (l : List Int) (w : World) (hl : l.length ≤ 9223372036854775807) (hc : ∀ k, k < l.length → ∃ b off, a = some ⟨b, off, none⟩ ∧ w.cell? ⟨b, off + k, none⟩ = some (.int .u64 (l.getD k 0))) (hw : ∀ k, k < l.length → W64 (l.getD k 0)) :
    Calls Try.prog 19 #[.slice a l.length cap] w fun e w' => e = .returned (.tuple #[.int .u64 (sumV l), .bool (sumB l)]) ∧ w = w' := by
  go_enter Try.func19, Try.ntmps19
  go_wp2_with fail
  go_loopg [4, 11] l.length (fun g s4 s11 wx => w = wx ∧ ∃ k : Nat, k ≤ l.length ∧ s4 = .int .u64 (tot (l.take k)) ∧ s11 = .int .i64 k ∧ l.length - k = g ∧ Hid (tot (l.take k) < 18446744073709551616))
  case atStart => exact ⟨rfl, 0, by omega, rfl, rfl, rfl, Lib.hid (by simp [tot])⟩
  case round =>
    obtain ⟨rfl, k, hk, rfl, rfl, rfl, ht⟩ := hrel
    by_cases hlt : k < l.length
    · obtain ⟨b, off, ea, hcell⟩ := hc k hlt
      have hx := hw k hlt
      have hts := tot_succ l k hlt
      have ht0 := tot_nonneg (l.take k) (fun x hx => (mem_bound l hw x (List.mem_of_mem_take hx)).1)
      have hA := fun w => ref_add (tot (l.take k)) (l.getD k 0) w ⟨ht0, by have := ht.out; omega⟩ hx
      have hle := tot_take_le l hw (k + 1)
      obtain ⟨x, hxe⟩ : ∃ x, l.getD k 0 = x := ⟨_, rfl⟩
      obtain ⟨t, hte⟩ : ∃ t, tot (l.take k) = t := ⟨_, rfl⟩
      rw [hxe] at hcell hx hts hA
      rw [hte] at hts hA ht0 ht
      rw [hts] at hle
      rw [hte]
      subst ea
      clear hxe hte hc hw
      by_cases hs : t + x < 18446744073709551616
      · have e1 : addV t x = t + x := if_pos hs
        have e2 : addB t x = true := decide_eq_true hs
        rw [e1, e2] at hA
        have HS := Lib.hid hts
        have hs' := Lib.hid hs
        clear e1 e2 hts hle
        go_wp2_with (go_at_call 10; refine (hA _).mono ?_; rintro e w' ⟨rfl, rfl⟩)
        go_roundg (l.length - (k + 1))
        case measure => omega
        case rel => exact ⟨rfl, k + 1, by omega, by rw [HS.out], by first | rfl | go_num, rfl, by rw [HS.out]; exact hs'⟩
      · have e1 : addV t x = 0 := if_neg hs
        have e2 : addB t x = false := decide_eq_false hs
        rw [e1, e2] at hA
        have f1 := Lib.hid (show sumV l = 0 from if_neg (by omega))
        have f2 := Lib.hid (show sumB l = false from decide_eq_false (by omega))
        clear e1 e2 hts hle
        go_wp2_with (go_at_call 10; refine (hA _).mono ?_; rintro e w' ⟨rfl, rfl⟩)
        go_ret2
        exact ⟨by rw [f1.out, f2.out]; rfl, rfl⟩
    · obtain rfl : k = l.length := by omega
      rw [List.take_length] at ht ⊢
      have f1 := Lib.hid (show sumV l = tot l from if_pos ht.out)
      have f2 := Lib.hid (show sumB l = true from decide_eq_true ht.out)
      clear hc hw
      go_wp2_with fail
      go_ret2
      exact ⟨by rw [f1.out, f2.out]; rfl, rfl⟩

theorem k_add : addV 18446744073709551615 1 = 0 ∧ addB 18446744073709551615 1 = false := by decide
theorem k_md1 : mdV 9223372036854775808 6 4 = 13835058055282163712 ∧ mdB 9223372036854775808 6 4 = true := by decide
theorem k_md2 : mdV 9223372036854775808 4 2 = 0 ∧ mdB 9223372036854775808 4 2 = false := by decide
theorem k_sum : sumV [1, 2, 3] = 6 ∧ sumB [1, 2, 3] = true := by decide

set_option maxHeartbeats 1000000 in
theorem known (w : World) : Calls Try.prog 15 #[] w fun e w' => e = .returned (.bool true) ∧ ∃ n, w' = (w.drewN n).alloc (.cells #[.int .u64 1, .int .u64 2, .int .u64 3] 22) := by
  have c1 := fun w => money_add 18446744073709551615 1 w (by unfold W64; omega) (by unfold W64; omega)
  have c2 := fun w => money_muldiv 9223372036854775808 6 4 w (by unfold W64; omega) (by unfold W64; omega) (by unfold W64; omega)
  have c3 := fun w => money_muldiv 9223372036854775808 4 2 w (by unfold W64; omega) (by unfold W64; omega) (by unfold W64; omega)
  rw [k_add.1, k_add.2] at c1
  rw [k_md1.1, k_md1.2] at c2
  rw [k_md2.1, k_md2.2] at c3
  go_enter Try.func15, Try.ntmps15
  go_wp2_with (go_at_call 9; refine (c1 _).mono ?_; rintro e w' ⟨rfl, rfl⟩)
  refine (c2 _).mono ?_
  rintro e w' ⟨rfl, n1, rfl⟩
  go_wp2_with fail
  refine (c3 _).mono ?_
  rintro e w' ⟨rfl, n2, rfl⟩
  clear c1 c2 c3
  go_wp2_with fail
  have c4 := money_sum (some ⟨w.heap.size, 0, none⟩) 3 [1, 2, 3] ((w.drewN (n1 + n2)).alloc (.cells #[.int .u64 1, .int .u64 2, .int .u64 3] 22)) (by decide) (fun k hk => ⟨w.heap.size, 0, rfl, by
      have : k = 0 ∨ k = 1 ∨ k = 2 := by simp at hk; omega
      have hz : (w.drewN (n1 + n2)).heap.size = w.heap.size := rfl
      rcases this with rfl | rfl | rfl <;> rw [← hz, World.cell?_alloc_new] <;> rfl⟩) (fun k hk => by
      have : k = 0 ∨ k = 1 ∨ k = 2 := by simp at hk; omega
      rcases this with rfl | rfl | rfl <;> (unfold W64; simp))
  rw [k_sum.1, k_sum.2] at c4
  refine c4.mono ?_
  rintro e w' ⟨rfl, rfl⟩
  clear c4
  go_wp2
  go_ret
  exact ⟨rfl, _, rfl⟩

theorem grown_drewN {W w : World} (h : Grown W w) (n : Nat) : Grown W (w.drewN n) := h

end Go.Proofs.Ytpabdkblmfeopaa
