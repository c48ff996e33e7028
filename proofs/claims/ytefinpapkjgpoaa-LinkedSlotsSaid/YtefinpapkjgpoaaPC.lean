/-
  The program's functions meet what the statements' walks hold them to.
-/
import Derived.Test.YtefinpapkjgpoaaPV
namespace Go.Proofs.Ytefinpapkjgpoaa
open Go.RowKit
set_option linter.unusedSimpArgs false
set_option linter.unusedVariables false

/-- The program's list stands for a list of the model. -/
def RepP : Rep := fun w g S m => ∃ ea ec q, Rp w g ea ec q ∧ Lk m q ∧ ∀ k, S k ↔ Sg g ea k
theorem ButS.iff {B : Nat} {S S2 : Nat → Prop} {w w' : World} (h : ButS B S w w') (hs : ∀ k, S2 k ↔ S k) : ButS B S2 w w' := ⟨h.1, fun k hk hn => h.2 k hk fun h => hn ((hs k).2 h)⟩
theorem rg_lst {q : PS} (E : List (Int × Int)) (h : ∀ x ∈ E, 0 ≤ x.1 ∧ x.1 < q.T.length) : Rg q (lst E (-1)) := by
  by_cases h0 : E = []
  · rw [h0]; exact .inl rfl
  · obtain ⟨A, v, e⟩ := lst_mem E (-1) h0
    have hin : (lst E (-1), v) ∈ A ++ [(lst E (-1), v)] := by simp
    rw [← e] at hin
    have := h (lst E (-1), v) hin
    obtain ⟨k, hk⟩ := Int.eq_ofNat_of_zero_le this.1
    exact .inr ⟨k, hk, by have h2 := this.2; simp only at h2; omega⟩
theorem rg_hd {q : PS} (E : List (Int × Int)) (h : ∀ x ∈ E, 0 ≤ x.1 ∧ x.1 < q.T.length) : Rg q (hd E (-1)) := by
  cases E with
  | nil => exact .inl rfl
  | cons x r =>
    have := h x List.mem_cons_self
    obtain ⟨k, hk⟩ := Int.eq_ofNat_of_zero_le this.1
    exact .inr ⟨k, hk, by have h2 := this.2; omega⟩
theorem rg_of {q : PS} {s : Int} (h0 : 0 ≤ s) (h1 : s < q.T.length) : Rg q s := by
  obtain ⟨k, rfl⟩ := Int.eq_ofNat_of_zero_le h0
  exact .inr ⟨k, rfl, by omega⟩
theorem Lk.freed {m : LM} {q : PS} (h : Lk m q) (hw : Wm m) : q.ln = q.T.length ∨ ∃ k : Nat, q.fr = k ∧ k < q.T.length := by
  have hc := hw.count
  by_cases h0 : m.F = []
  · exact .inl (by rw [h.ln, h.tl, ← hc, h0]; simp)
  · have hfs := h.fs
    have hne : m.F.reverse ≠ [] := by simpa using h0
    cases hF : m.F.reverse with
    | nil => exact absurd hF hne
    | cons s r =>
      rw [hF] at hfs
      have hin : s ∈ m.F := List.mem_reverse.1 (by rw [hF]; exact List.mem_cons_self)
      have hr := F_range hw s hin
      obtain ⟨k, rfl⟩ := Int.eq_ofNat_of_zero_le hr.1
      exact .inr ⟨k, hfs.1, by rw [h.tl]; omega⟩
theorem Lk.neigh {m : LM} {q : PS} (h : Lk m q) (hw : Wm m) {s : Int} (hh : hasP q s = true) : Rg q (Go.Proofs.Ytefinpapkjgpoaa.prevP q s) ∧ Rg q (Go.Proofs.Ytefinpapkjgpoaa.nextP q s) ∧ 1 ≤ q.ln ∧ ∃ i : Nat, placeM m s = i := by
  have hp : ¬ placeM m s < 0 := by
    have := h.has hw s
    rw [hh] at this
    simpa using this.symm
  obtain ⟨i, hi⟩ := Int.eq_ofNat_of_zero_le (show 0 ≤ placeM m s by omega)
  obtain ⟨A, v, B, he, -, hat, -⟩ := h.there hi
  have hr : ∀ x ∈ m.E, 0 ≤ x.1 ∧ x.1 < q.T.length := fun x hx => by rw [h.tl]; exact E_range hw x hx
  rw [he] at hr
  refine ⟨?_, ?_, by rw [h.ln, he]; simp; omega, i, hi⟩
  · unfold Go.Proofs.Ytefinpapkjgpoaa.prevP
    rw [if_pos hh, hat]
    exact rg_lst A fun x hx => hr x (List.mem_append_left _ hx)
  · unfold Go.Proofs.Ytefinpapkjgpoaa.nextP
    rw [if_pos hh, hat]
    exact rg_hd B fun x hx => hr x (List.mem_append_right _ (List.mem_cons_of_mem _ hx))
theorem Tk.upd {B g ec : Nat} {ea : Option Addr} {S : Nat → Prop} {q2 : PS} {m2 : LM} {w w' : World} (h : Tk B g ea q2 w w') (hl : Lk m2 q2) (hs : ∀ k, S k ↔ Sg g ea k) : Upd RepP g B S m2 w w' := by
  obtain ⟨ea2, ec2, h2, hb, hn⟩ := h
  exact ⟨Sg g ea2, ⟨ea2, ec2, q2, h2, hl, fun k => Iff.rfl⟩, fun k hk => (hn.sub k hk).imp (fun h => (hs k).2 h) id, hb.iff hs⟩
theorem upd_same {B g ec : Nat} {ea : Option Addr} {S : Nat → Prop} {q2 : PS} {m2 : LM} {w w' : World} (h : Rp w' g ea ec q2) (hb : ButS B (Sg g ea) w w') (hl : Lk m2 q2) (hs : ∀ k, S k ↔ Sg g ea k) : Upd RepP g B S m2 w w' :=
  ⟨S, ⟨ea, ec, q2, h, hl, hs⟩, fun k hk => .inl hk, hb.iff hs⟩
theorem to_below {P : Program} {f : FuncId} {args : Array Value} {w : World} {v : Value} (h : Calls P f args w fun e w' => e = .returned v ∧ w' = w) : Calls P f args w fun e w' => e = .returned v ∧ Below w.heap.size w w' :=
  h.mono fun e w' h => ⟨h.1, by rw [h.2]; exact Below.refl _ _⟩
theorem list_ok : ListC RepP 23 25 27 28 29 18 15 17 20 22 12 14 where
  inn := fun ⟨ea, ec, q, h, _, hs⟩ k hk => h.lt k ((hs k).1 hk)
  keep := fun ⟨ea, ec, q, h, hl, hs⟩ _ hk => ⟨ea, ec, q, h.same fun k h2 => hk k ((hs k).2 h2), hl, hs⟩
  new := fun w => (p_new w).mono fun e w' ⟨he, hw⟩ => by
    subst hw
    refine ⟨w.heap.size, Sg w.heap.size none, he, ⟨none, 0, ⟨[], 0, 0, 0, 0⟩, { bx := heap_alloc_last w _, ow := World.ownsRow_nil _ _ _ _, ap := fun x hx => (by cases hx), tn := (by simp), ln := (by simp) }, Lk.empty, fun k => Iff.rfl⟩, fun k hk => ?_, (Below.refl _ w).alloc (Nat.le_refl _) _⟩
    rcases hk with rfl | ⟨x, hx, -⟩
    · exact Nat.le_refl _
    · cases hx
  pushB := fun w g S m v B ⟨ea, ec, q, h, hl, hs⟩ hw ho hv hB hBw => by
    obtain ⟨t0, t1, t2, t3, t4, t5, t6, t7⟩ := hl.take hw v
    obtain ⟨p1, p2⟩ := hl.pushB hw v
    have hw2 := hw.pushB v
    have hEq : (pushB m v).1 = ⟨m.E ++ [((takeM m).2, v)], (takeM m).1.F, (takeM m).1.U⟩ := by unfold pushB; rw [takeM_E]
    rw [hEq] at hw2
    have hsr := E_range hw2 ((takeM m).2, v) (by simp)
    have hla : lastP (takeP q v).1 = lst m.E (-1) := by
      unfold lastP
      rw [t5]
      by_cases h0 : m.E = []
      · rw [h0]; rfl
      · rw [if_neg (by simpa using h0), t3 h0]
    refine (p_pushB h (fun k hk => hB k ((hs k).2 hk)) hBw v (hl.freed hw) (by rw [hl.tl]; have := ho.2.2; omega) (by rw [t0]; exact rg_of hsr.1 (by rw [t6]; exact hsr.2)) ?_ (by rw [t5]; have := ho.1; omega)).mono fun e w' ⟨he, hT⟩ => ⟨by rw [he, p2], hT.upd (ec := ec) p1 hs⟩
    rw [hla]
    refine rg_lst _ fun x hx => ?_
    rw [t6]
    exact E_range hw2 x (List.mem_append_left _ hx)
  pushF := fun w g S m v B ⟨ea, ec, q, h, hl, hs⟩ hw ho hv hB hBw => by
    obtain ⟨t0, t1, t2, t3, t4, t5, t6, t7⟩ := hl.take hw v
    obtain ⟨p1, p2⟩ := hl.pushF hw v
    have hw2 := hw.pushF v
    have hEq : (pushF m v).1 = ⟨((takeM m).2, v) :: m.E, (takeM m).1.F, (takeM m).1.U⟩ := by unfold pushF; rw [takeM_E]
    rw [hEq] at hw2
    have hsr := E_range hw2 ((takeM m).2, v) (by simp)
    have hla : firstP (takeP q v).1 = hd m.E (-1) := by
      unfold firstP
      rw [t5]
      by_cases h0 : m.E = []
      · rw [h0]; rfl
      · rw [if_neg (by simpa using h0), t2 h0]
    refine (p_pushF h (fun k hk => hB k ((hs k).2 hk)) hBw v (hl.freed hw) (by rw [hl.tl]; have := ho.2.2; omega) (by rw [t0]; exact rg_of hsr.1 (by rw [t6]; exact hsr.2)) ?_ (by rw [t5]; have := ho.1; omega)).mono fun e w' ⟨he, hT⟩ => ⟨by rw [he, p2], hT.upd (ec := ec) p1 hs⟩
    rw [hla]
    refine rg_hd _ fun x hx => ?_
    rw [t6]
    exact E_range hw2 x (List.mem_cons_of_mem _ hx)
  remove := fun w g S m s B ⟨ea, ec, q, h, hl, hs⟩ hw ho hv hB hBw => by
    obtain ⟨r1, r2⟩ := hl.remove hw s
    cases hh : hasP q s with
    | false =>
      have hr : removeP q s = (q, false) := by unfold removeP; rw [hh]; rfl
      rw [hr] at r1 r2
      refine (p_remove0 h s hh).mono fun e w' ⟨he, hww⟩ => ?_
      subst hww
      exact ⟨by rw [he, ← r2], upd_same h (ButS.refl _ _ _) r1 hs⟩
    | true =>
      have hr : removeP q s = (freeP (unlinkP q s) s, true) := by unfold removeP; rw [hh]; rfl
      rw [hr] at r1 r2
      obtain ⟨hp, hn, hln, i, hi⟩ := hl.neigh hw hh
      obtain ⟨k, rfl, hk, -⟩ := hasP_true hh
      obtain ⟨b, rfl, -⟩ := h.addr k hk
      obtain ⟨A, v, B2, -, -, -, -, -, -, -, -, hul, -⟩ := hl.unlink hw hi
      refine (p_remove1 h (fun k hk => hB k ((hs k).2 hk)) k hh hp hn hln (by rw [hul, ← hl.tl]; exact hk)).mono fun e w' ⟨he, h2, hb⟩ => ⟨by rw [he, ← r2], upd_same h2 hb r1 hs⟩
  move := fun w g S m s B ⟨ea, ec, q, h, hl, hs⟩ hw ho hv hB hBw => by
    obtain ⟨r1, r2⟩ := hl.move hw s
    cases hh : hasP q s with
    | false =>
      have hr : moveP q s = (q, false) := by unfold moveP; rw [hh]; rfl
      rw [hr] at r1 r2
      refine (p_move0 h s hh).mono fun e w' ⟨he, hww⟩ => ?_
      subst hww
      exact ⟨by rw [he, ← r2], upd_same h (ButS.refl _ _ _) r1 hs⟩
    | true =>
      have hr : moveP q s = (linkP (unlinkP q s) (lastP (unlinkP q s)) s (-1), true) := by unfold moveP; rw [hh]; rfl
      rw [hr] at r1 r2
      obtain ⟨hp, hn, hln, i, hi⟩ := hl.neigh hw hh
      obtain ⟨k, rfl, hk, -⟩ := hasP_true hh
      obtain ⟨b, rfl, -⟩ := h.addr k hk
      obtain ⟨A, v, B2, he, hwo, -, u1, u2, u3, -, u5, hul, -⟩ := hl.unlink hw hi
      have hin : ∀ x ∈ A ++ B2, x ∈ m.E := fun x hx => by
        rw [he]
        rcases List.mem_append.1 hx with hx | hx
        · exact List.mem_append_left _ hx
        · exact List.mem_append_right _ (List.mem_cons_of_mem _ hx)
      have hla : lastP (unlinkP q k) = lst (A ++ B2) (-1) := by
        unfold lastP
        rw [u5]
        by_cases h0 : A ++ B2 = []
        · rw [h0]; rfl
        · rw [if_neg (by simpa using h0), u3 h0]
      have hlen : (A ++ B2).length + 1 = m.E.length := by rw [he]; simp; omega
      refine (p_move1 h (fun k hk => hB k ((hs k).2 hk)) k hh hp hn hln (.inr ⟨k, rfl, by rw [hul, ← hl.tl]; exact hk⟩) ?_ (by rw [u5, hlen]; have := ho.1; omega)).mono fun e w' ⟨he, h2, hb⟩ => ⟨by rw [he, ← r2], upd_same h2 hb r1 hs⟩
      rw [hla]
      refine rg_lst _ fun x hx => ?_
      rw [hul]
      exact E_range hw x (hin x hx)
  value := fun w g S m s ⟨ea, ec, q, h, hl, hs⟩ hw ho hv => by
    rw [hl.value hw s]
    exact to_below (p_value h s)
  first := fun w g S m ⟨ea, ec, q, h, hl, hs⟩ hw ho => by
    rw [slotAt_first, ← hl.firstP]
    exact to_below (p_first h)
  last := fun w g S m ⟨ea, ec, q, h, hl, hs⟩ hw ho => by
    rw [slotAt_last, ← hl.lastP]
    exact to_below (p_last h)
  next := fun w g S m s ⟨ea, ec, q, h, hl, hs⟩ hw ho hv => by
    rw [← hl.nextP hw s]
    exact to_below (p_next h s)
  prev := fun w g S m s ⟨ea, ec, q, h, hl, hs⟩ hw ho hv => by
    rw [← hl.prevP hw s]
    exact to_below (p_prev h s)
  values := fun w g S m ⟨ea, ec, q, h, hl, hs⟩ hw ho => (p_values h hl.ch hl.firstP (fun x hx => by rw [hl.tl]; exact E_range hw x hx) hl.ln).mono fun e w' hV => hV
  len := fun w g S m ⟨ea, ec, q, h, hl, hs⟩ hw ho => by
    rw [← hl.ln]
    exact to_below (p_len h)
set_option maxRecDepth 100000 in
set_option maxHeartbeats 2000000 in
theorem n_values (w : World) : Calls Try.prog 12 #[.pointer none] w fun e w' => (∃ c, e = .returned (.slice (some ⟨w.heap.size, 0, none⟩) 0 c)) ∧ Below w.heap.size w w' := by
  have C1 := n_len w
  obtain ⟨w1, hmk, hO1, hb1⟩ := make_int w 0 (by omega)
  have C2 := n_first w1
  have HB := Lib.hid hb1
  clear hO1 hb1
  go_enter Try.func12, Try.ntmps12
  go_upto_region 1 with fail
  apply wp_region_lit
  refine gw_val (by kernel_rfl) (some 5) rfl (.pointer none) (by kernel_rfl) ?_
  simp only [Act.put, List.setIfInBounds_toArray, List.set_cons_succ, List.set_cons_zero]
  refine gw_call (by kernel_rfl) (some 6) rfl 14 #[.pointer none] (.int .i64 0) (fun w9 => w9 = w) (by kernel_rfl) C1 (fun w9 hw9 => ?_)
  subst hw9
  simp only [Act.put, List.setIfInBounds_toArray, List.set_cons_succ, List.set_cons_zero]
  refine gw_make (by kernel_rfl) (some 7) rfl 22 (.const (.int .i64 0)) (.tmp 6) rfl (.int .i64 0) (.int .i64 0) (.slice (some ⟨w9.heap.size, 0, none⟩) 0 0) (by kernel_rfl) (by kernel_rfl) w1 hmk ?_
  simp only [Act.put, List.setIfInBounds_toArray, List.set_cons_succ, List.set_cons_zero]
  refine gw_val (by kernel_rfl) (some 3) rfl (.slice (some ⟨w9.heap.size, 0, none⟩) 0 0) (by kernel_rfl) ?_
  simp only [Act.put, List.setIfInBounds_toArray, List.set_cons_succ, List.set_cons_zero]
  apply wpList_nil
  go_upto_region 2 with fail
  apply wp_region_lit
  refine gw_val (by kernel_rfl) (some 8) rfl (.pointer none) (by kernel_rfl) ?_
  simp only [Act.put, List.setIfInBounds_toArray, List.set_cons_succ, List.set_cons_zero]
  refine gw_call (by kernel_rfl) (some 9) rfl 15 #[.pointer none] (.int .i64 (-1)) (fun w8 => w8 = w1) (by kernel_rfl) C2 (fun w8 hw8 => ?_)
  subst hw8
  simp only [Act.put, List.setIfInBounds_toArray, List.set_cons_succ, List.set_cons_zero]
  refine gw_val (by kernel_rfl) (some 4) rfl (.int .i64 (-1)) (by kernel_rfl) ?_
  simp only [Act.put, List.setIfInBounds_toArray, List.set_cons_succ, List.set_cons_zero]
  apply wpList_nil
  clear hmk C1 C2
  go_wp2_with fail
  go_loopg [3, 4] 0 (fun n s3 s4 wx => s3 = .slice (some ⟨w9.heap.size, 0, none⟩) 0 0 ∧ s4 = .int .i64 (-1) ∧ wx = w8 ∧ n = 0)
  case atStart => exact ⟨rfl, rfl, rfl, rfl⟩
  case round =>
    obtain ⟨rfl, rfl, rfl, hg⟩ := hrel
    clear hg
    go_upto_region 3 with fail
    apply wp_region_lit
    refine gw_val (by kernel_rfl) (some 10) rfl (.int .i64 (-1)) (by kernel_rfl) ?_
    simp only [Act.put, List.setIfInBounds_toArray, List.set_cons_succ, List.set_cons_zero]
    refine gw_val (by kernel_rfl) (some 11) rfl (.bool false) (by kernel_rfl) ?_
    simp only [Act.put, List.setIfInBounds_toArray, List.set_cons_succ, List.set_cons_zero]
    apply wpList_nil
    go_upto_region 6 with fail
    apply wp_region_lit
    refine gw_val (by kernel_rfl) (some 26) rfl (.slice (some ⟨w9.heap.size, 0, none⟩) 0 0) (by kernel_rfl) ?_
    simp only [Act.put, List.setIfInBounds_toArray, List.set_cons_succ, List.set_cons_zero]
    refine gw_val (by kernel_rfl) (some 2) rfl (.slice (some ⟨w9.heap.size, 0, none⟩) 0 0) (by kernel_rfl) ?_
    simp only [Act.put, List.setIfInBounds_toArray, List.set_cons_succ, List.set_cons_zero]
    apply wpList_nil
    go_wp2_with fail
    go_ret
    exact ⟨⟨0, rfl⟩, HB.out⟩
theorem nil_ok : NilC 25 27 28 29 18 15 17 20 22 12 14 where
  pushB := fun w v _ => to_below (n_pushB w v)
  pushF := fun w v _ => to_below (n_pushF w v)
  remove := fun w v _ => to_below (n_remove w v)
  move := fun w v _ => to_below (n_move w v)
  value := fun w v _ => to_below (n_value w v)
  first := fun w => to_below (n_first w)
  last := fun w => to_below (n_last w)
  next := fun w v _ => to_below (n_next w v)
  prev := fun w v _ => to_below (n_prev w v)
  values := fun w => (n_values w).mono fun e w' ⟨⟨c, he⟩, hb⟩ => ⟨_, c, he, hb⟩
  len := fun w => to_below (n_len w)
end Go.Proofs.Ytefinpapkjgpoaa
