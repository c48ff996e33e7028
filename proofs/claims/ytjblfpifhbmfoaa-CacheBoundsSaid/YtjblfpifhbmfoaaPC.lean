/-
  What the program's list does, over the model of lists. (Out of stage 7.)
-/
import Derived.Test.YtjblfpifhbmfoaaPV
namespace Go.Proofs.Ytjblfpifhbmfoaa
open Go.RowKit
set_option linter.unusedSimpArgs false
set_option linter.unusedVariables false

/-- The program's list stands for a list of the model. -/
def RepP : Rep := fun w g S m => ∃ ea ec q, Rp w g ea ec q ∧ Lk m q ∧ ∀ k, S k ↔ Sg g ea k
theorem ButS.iff {B : Nat} {S S2 : Nat → Prop} {w w' : World} (h : ButS B S w w') (hs : ∀ k, S2 k ↔ S k) : ButS B S2 w w' := ⟨h.1, fun k hk hn => h.2 k hk fun h => hn ((hs k).2 h)⟩
theorem rg_lst {q : PS} (E : List (Int × Int)) (h : ∀ x ∈ E, 0 ≤ x.1 ∧ x.1 < q.T.length) : Rg q (lst E (-1)) := by
  by_cases h0 : E = []
  · rw [h0]; exact .inl rfl
  · obtain ⟨A, v, e⟩ := lst_mem E (-1) h0
    have hin : (lst E (-1), v) ∈ A ++ [(lst E (-1), v)] := by simp
    rw [← e] at hin
    have := h (lst E (-1), v) hin
    obtain ⟨k, hk⟩ := Int.eq_ofNat_of_zero_le this.1
    exact .inr ⟨k, hk, by have h2 := this.2; simp only at h2; omega⟩
theorem rg_hd {q : PS} (E : List (Int × Int)) (h : ∀ x ∈ E, 0 ≤ x.1 ∧ x.1 < q.T.length) : Rg q (hd E (-1)) := by
  cases E with
  | nil => exact .inl rfl
  | cons x r =>
    have := h x List.mem_cons_self
    obtain ⟨k, hk⟩ := Int.eq_ofNat_of_zero_le this.1
    exact .inr ⟨k, hk, by have h2 := this.2; omega⟩
theorem rg_of {q : PS} {s : Int} (h0 : 0 ≤ s) (h1 : s < q.T.length) : Rg q s := by
  obtain ⟨k, rfl⟩ := Int.eq_ofNat_of_zero_le h0
  exact .inr ⟨k, rfl, by omega⟩
theorem Lk.freed {m : LM} {q : PS} (h : Lk m q) (hw : Wm m) : q.ln = q.T.length ∨ ∃ k : Nat, q.fr = k ∧ k < q.T.length := by
  have hc := hw.count
  by_cases h0 : m.F = []
  · exact .inl (by rw [h.ln, h.tl, ← hc, h0]; simp)
  · have hfs := h.fs
    have hne : m.F.reverse ≠ [] := by simpa using h0
    cases hF : m.F.reverse with
    | nil => exact absurd hF hne
    | cons s r =>
      rw [hF] at hfs
      have hin : s ∈ m.F := List.mem_reverse.1 (by rw [hF]; exact List.mem_cons_self)
      have hr := F_range hw s hin
      obtain ⟨k, rfl⟩ := Int.eq_ofNat_of_zero_le hr.1
      exact .inr ⟨k, hfs.1, by rw [h.tl]; omega⟩
theorem Lk.neigh {m : LM} {q : PS} (h : Lk m q) (hw : Wm m) {s : Int} (hh : hasP q s = true) : Rg q (Go.Proofs.Ytjblfpifhbmfoaa.prevP q s) ∧ Rg q (Go.Proofs.Ytjblfpifhbmfoaa.nextP q s) ∧ 1 ≤ q.ln ∧ ∃ i : Nat, placeM m s = i := by
  have hp : ¬ placeM m s < 0 := by
    have := h.has hw s
    rw [hh] at this
    simpa using this.symm
  obtain ⟨i, hi⟩ := Int.eq_ofNat_of_zero_le (show 0 ≤ placeM m s by omega)
  obtain ⟨A, v, B, he, -, hat, -⟩ := h.there hi
  have hr : ∀ x ∈ m.E, 0 ≤ x.1 ∧ x.1 < q.T.length := fun x hx => by rw [h.tl]; exact E_range hw x hx
  rw [he] at hr
  refine ⟨?_, ?_, by rw [h.ln, he]; simp; omega, i, hi⟩
  · unfold Go.Proofs.Ytjblfpifhbmfoaa.prevP
    rw [if_pos hh, hat]
    exact rg_lst A fun x hx => hr x (List.mem_append_left _ hx)
  · unfold Go.Proofs.Ytjblfpifhbmfoaa.nextP
    rw [if_pos hh, hat]
    exact rg_hd B fun x hx => hr x (List.mem_append_right _ (List.mem_cons_of_mem _ hx))
theorem Tk.upd {B g ec : Nat} {ea : Option Addr} {S : Nat → Prop} {q2 : PS} {m2 : LM} {w w' : World} (h : Tk B g ea q2 w w') (hl : Lk m2 q2) (hs : ∀ k, S k ↔ Sg g ea k) : Upd RepP g B S m2 w w' := by
  obtain ⟨ea2, ec2, h2, hb, hn⟩ := h
  exact ⟨Sg g ea2, ⟨ea2, ec2, q2, h2, hl, fun k => Iff.rfl⟩, fun k hk => (hn.sub k hk).imp (fun h => (hs k).2 h) id, hb.iff hs⟩
theorem upd_same {B g ec : Nat} {ea : Option Addr} {S : Nat → Prop} {q2 : PS} {m2 : LM} {w w' : World} (h : Rp w' g ea ec q2) (hb : ButS B (Sg g ea) w w') (hl : Lk m2 q2) (hs : ∀ k, S k ↔ Sg g ea k) : Upd RepP g B S m2 w w' :=
  ⟨S, ⟨ea, ec, q2, h, hl, hs⟩, fun k hk => .inl hk, hb.iff hs⟩
theorem to_below {P : Program} {f : FuncId} {args : Array Value} {w : World} {v : Value} (h : Calls P f args w fun e w' => e = .returned v ∧ w' = w) : Calls P f args w fun e w' => e = .returned v ∧ Below w.heap.size w w' :=
  h.mono fun e w' h => ⟨h.1, by rw [h.2]; exact Below.refl _ _⟩
theorem list_inn : ∀ {w g S m}, RepP w g S m → ∀ k, S k → k < w.heap.size :=
  fun ⟨ea, ec, q, h, _, hs⟩ k hk => h.lt k ((hs k).1 hk)
theorem list_keep : ∀ {w w' g S m}, RepP w g S m → w.heap.size ≤ w'.heap.size → (∀ k, S k → w'.heap[k]? = w.heap[k]?) → RepP w' g S m :=
  fun ⟨ea, ec, q, h, hl, hs⟩ _ hk => ⟨ea, ec, q, h.same fun k h2 => hk k ((hs k).2 h2), hl, hs⟩
theorem list_new : ∀ w, Calls Try.prog 25 #[] w fun e w' => ∃ g S, e = .returned (.pointer (some ⟨g, 0, none⟩)) ∧ RepP w' g S LM.empty ∧ (∀ k, S k → w.heap.size ≤ k) ∧ Below w.heap.size w w' :=
  fun w => (p_new w).mono fun e w' ⟨he, hw⟩ => by
    subst hw
    refine ⟨w.heap.size, Sg w.heap.size none, he, ⟨none, 0, ⟨[], 0, 0, 0, 0⟩, { bx := heap_alloc_last w _, ow := World.ownsRow_nil _ _ _ _, ap := fun x hx => (by cases hx), tn := (by simp), ln := (by simp) }, Lk.empty, fun k => Iff.rfl⟩, fun k hk => ?_, (Below.refl _ w).alloc (Nat.le_refl _) _⟩
    rcases hk with rfl | ⟨x, hx, -⟩
    · exact Nat.le_refl _
    · cases hx
theorem list_pushB : ∀ w g S m v B, RepP w g S m → Wm m → Ok m 90000 → I64 v → (∀ k, S k → B ≤ k) → B ≤ w.heap.size → Calls Try.prog 31 #[.pointer (some ⟨g, 0, none⟩), .int .i64 v] w fun e w' => e = .returned (.int .i64 (pushB m v).2) ∧ Upd RepP g B S (pushB m v).1 w w' :=
  fun w g S m v B ⟨ea, ec, q, h, hl, hs⟩ hw ho hv hB hBw => by
    obtain ⟨t0, t1, t2, t3, t4, t5, t6, t7⟩ := hl.take hw v
    obtain ⟨p1, p2⟩ := hl.pushB hw v
    have hw2 := hw.pushB v
    have hEq : (pushB m v).1 = ⟨m.E ++ [((takeM m).2, v)], (takeM m).1.F, (takeM m).1.U⟩ := by unfold pushB; rw [takeM_E]
    rw [hEq] at hw2
    have hsr := E_range hw2 ((takeM m).2, v) (by simp)
    have hla : lastP (takeP q v).1 = lst m.E (-1) := by
      unfold lastP
      rw [t5]
      by_cases h0 : m.E = []
      · rw [h0]; rfl
      · rw [if_neg (by simpa using h0), t3 h0]
    refine (p_pushB h (fun k hk => hB k ((hs k).2 hk)) hBw v (hl.freed hw) (by rw [hl.tl]; have := ho.2.2; omega) (by rw [t0]; exact rg_of hsr.1 (by rw [t6]; exact hsr.2)) ?_ (by rw [t5]; have := ho.1; omega)).mono fun e w' ⟨he, hT⟩ => ⟨by rw [he, p2], hT.upd (ec := ec) p1 hs⟩
    rw [hla]
    refine rg_lst _ fun x hx => ?_
    rw [t6]
    exact E_range hw2 x (List.mem_append_left _ hx)
theorem list_remove : ∀ w g S m s B, RepP w g S m → Wm m → Ok m 90000 → I64 s → (∀ k, S k → B ≤ k) → B ≤ w.heap.size → Calls Try.prog 28 #[.pointer (some ⟨g, 0, none⟩), .int .i64 s] w fun e w' => e = .returned (.bool (removeM m s).2) ∧ Upd RepP g B S (removeM m s).1 w w' :=
  fun w g S m s B ⟨ea, ec, q, h, hl, hs⟩ hw ho hv hB hBw => by
    obtain ⟨r1, r2⟩ := hl.remove hw s
    cases hh : hasP q s with
    | false =>
      have hr : removeP q s = (q, false) := by unfold removeP; rw [hh]; rfl
      rw [hr] at r1 r2
      refine (p_remove0 h s hh).mono fun e w' ⟨he, hww⟩ => ?_
      subst hww
      exact ⟨by rw [he, ← r2], upd_same h (ButS.refl _ _ _) r1 hs⟩
    | true =>
      have hr : removeP q s = (freeP (unlinkP q s) s, true) := by unfold removeP; rw [hh]; rfl
      rw [hr] at r1 r2
      obtain ⟨hp, hn, hln, i, hi⟩ := hl.neigh hw hh
      obtain ⟨k, rfl, hk, -⟩ := hasP_true hh
      obtain ⟨b, rfl, -⟩ := h.addr k hk
      obtain ⟨A, v, B2, -, -, -, -, -, -, -, -, hul, -⟩ := hl.unlink hw hi
      refine (p_remove1 h (fun k hk => hB k ((hs k).2 hk)) k hh hp hn hln (by rw [hul, ← hl.tl]; exact hk)).mono fun e w' ⟨he, h2, hb⟩ => ⟨by rw [he, ← r2], upd_same h2 hb r1 hs⟩
theorem list_move : ∀ w g S m s B, RepP w g S m → Wm m → Ok m 90000 → I64 s → (∀ k, S k → B ≤ k) → B ≤ w.heap.size → Calls Try.prog 29 #[.pointer (some ⟨g, 0, none⟩), .int .i64 s] w fun e w' => e = .returned (.bool (moveM m s).2) ∧ Upd RepP g B S (moveM m s).1 w w' :=
  fun w g S m s B ⟨ea, ec, q, h, hl, hs⟩ hw ho hv hB hBw => by
    obtain ⟨r1, r2⟩ := hl.move hw s
    cases hh : hasP q s with
    | false =>
      have hr : moveP q s = (q, false) := by unfold moveP; rw [hh]; rfl
      rw [hr] at r1 r2
      refine (p_move0 h s hh).mono fun e w' ⟨he, hww⟩ => ?_
      subst hww
      exact ⟨by rw [he, ← r2], upd_same h (ButS.refl _ _ _) r1 hs⟩
    | true =>
      have hr : moveP q s = (linkP (unlinkP q s) (lastP (unlinkP q s)) s (-1), true) := by unfold moveP; rw [hh]; rfl
      rw [hr] at r1 r2
      obtain ⟨hp, hn, hln, i, hi⟩ := hl.neigh hw hh
      obtain ⟨k, rfl, hk, -⟩ := hasP_true hh
      obtain ⟨b, rfl, -⟩ := h.addr k hk
      obtain ⟨A, v, B2, he, hwo, -, u1, u2, u3, -, u5, hul, -⟩ := hl.unlink hw hi
      have hin : ∀ x ∈ A ++ B2, x ∈ m.E := fun x hx => by
        rw [he]
        rcases List.mem_append.1 hx with hx | hx
        · exact List.mem_append_left _ hx
        · exact List.mem_append_right _ (List.mem_cons_of_mem _ hx)
      have hla : lastP (unlinkP q k) = lst (A ++ B2) (-1) := by
        unfold lastP
        rw [u5]
        by_cases h0 : A ++ B2 = []
        · rw [h0]; rfl
        · rw [if_neg (by simpa using h0), u3 h0]
      have hlen : (A ++ B2).length + 1 = m.E.length := by rw [he]; simp; omega
      refine (p_move1 h (fun k hk => hB k ((hs k).2 hk)) k hh hp hn hln (.inr ⟨k, rfl, by rw [hul, ← hl.tl]; exact hk⟩) ?_ (by rw [u5, hlen]; have := ho.1; omega)).mono fun e w' ⟨he, h2, hb⟩ => ⟨by rw [he, ← r2], upd_same h2 hb r1 hs⟩
      rw [hla]
      refine rg_lst _ fun x hx => ?_
      rw [hul]
      exact E_range hw x (hin x hx)
theorem list_value : ∀ w g S m s, RepP w g S m → Wm m → Ok m 90000 → I64 s → Calls Try.prog 27 #[.pointer (some ⟨g, 0, none⟩), .int .i64 s] w fun e w' => e = .returned (.tuple #[.int .i64 (valueM m s).1, .bool (valueM m s).2]) ∧ Below w.heap.size w w' :=
  fun w g S m s ⟨ea, ec, q, h, hl, hs⟩ hw ho hv => by
    rw [hl.value hw s]
    exact to_below (p_value h s)
theorem list_first : ∀ w g S m, RepP w g S m → Wm m → Ok m 90000 → Calls Try.prog 38 #[.pointer (some ⟨g, 0, none⟩)] w fun e w' => e = .returned (.int .i64 (slotAt m 0)) ∧ Below w.heap.size w w' :=
  fun w g S m ⟨ea, ec, q, h, hl, hs⟩ hw ho => by
    rw [slotAt_first, ← hl.firstP]
    exact to_below (p_first h)
theorem list_last : ∀ w g S m, RepP w g S m → Wm m → Ok m 90000 → Calls Try.prog 37 #[.pointer (some ⟨g, 0, none⟩)] w fun e w' => e = .returned (.int .i64 (slotAt m ((m.E.length : Int) - 1))) ∧ Below w.heap.size w w' :=
  fun w g S m ⟨ea, ec, q, h, hl, hs⟩ hw ho => by
    rw [slotAt_last, ← hl.lastP]
    exact to_below (p_last h)
theorem list_next : ∀ w g S m s, RepP w g S m → Wm m → Ok m 90000 → I64 s → Calls Try.prog 41 #[.pointer (some ⟨g, 0, none⟩), .int .i64 s] w fun e w' => e = .returned (.int .i64 (nextM m s 1)) ∧ Below w.heap.size w w' :=
  fun w g S m s ⟨ea, ec, q, h, hl, hs⟩ hw ho hv => by
    rw [← hl.nextP hw s]
    exact to_below (p_next h s)
theorem list_prev : ∀ w g S m s, RepP w g S m → Wm m → Ok m 90000 → I64 s → Calls Try.prog 43 #[.pointer (some ⟨g, 0, none⟩), .int .i64 s] w fun e w' => e = .returned (.int .i64 (nextM m s (-1))) ∧ Below w.heap.size w w' :=
  fun w g S m s ⟨ea, ec, q, h, hl, hs⟩ hw ho hv => by
    rw [← hl.prevP hw s]
    exact to_below (p_prev h s)
theorem list_values : ∀ w g S m, RepP w g S m → Wm m → Ok m 90000 → Calls Try.prog 33 #[.pointer (some ⟨g, 0, none⟩)] w fun e w' => ∃ a c, e = .returned (.slice a m.E.length c) ∧ Cs w' a (icells (valuesM m)) ∧ m.E.length ≤ c ∧ Below w.heap.size w w' :=
  fun w g S m ⟨ea, ec, q, h, hl, hs⟩ hw ho => (p_values h hl.ch hl.firstP (fun x hx => by rw [hl.tl]; exact E_range hw x hx) hl.ln).mono fun e w' ⟨a, c, e1, e2, e3, e4, _⟩ => ⟨a, c, e1, e2, e3, e4⟩
theorem list_valuesN : ∀ w g S m, RepP w g S m → Wm m → Ok m 90000 → Calls Try.prog 33 #[.pointer (some ⟨g, 0, none⟩)] w fun e w' => ∃ a c, e = .returned (.slice a m.E.length c) ∧ Cs w' a (icells (valuesM m)) ∧ m.E.length ≤ c ∧ Below w.heap.size w w' ∧ ∀ x, a = some x → w.heap.size ≤ x.block :=
  fun w g S m ⟨ea, ec, q, h, hl, hs⟩ hw ho => (p_values h hl.ch hl.firstP (fun x hx => by rw [hl.tl]; exact E_range hw x hx) hl.ln).mono fun e w' hV => hV
theorem list_len : ∀ w g S m, RepP w g S m → Wm m → Ok m 90000 → Calls Try.prog 40 #[.pointer (some ⟨g, 0, none⟩)] w fun e w' => e = .returned (.int .i64 m.E.length) ∧ Below w.heap.size w w' :=
  fun w g S m ⟨ea, ec, q, h, hl, hs⟩ hw ho => by
    rw [← hl.ln]
    exact to_below (p_len h)
end Go.Proofs.Ytjblfpifhbmfoaa
